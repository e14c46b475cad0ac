import Derived.Test.YtabpkohcimiceabTakeB
import Derived.Test.YtabpkohcimiceabRplC
import Derived.Test.YtabpkohcimiceabOpen
import Derived.Test.YtabpkohcimiceabReadL
namespace Go.Proofs.Ytabpkohcimiceab
set_option maxRecDepth 100000
set_option maxHeartbeats 1000000
open Go.RowKit
set_option linter.unusedVariables false
set_option linter.unusedSimpArgs false
theorem keyR_take (s : StM) (l : LetM) (draw : Nat) : keyR s l draw = if s.step + 1 < l.step ∨ l.step % 2 = s.step % 2 then (15, [], s) else if (takeR s l draw).1 = 0 then takeR s l draw else ((takeR s l draw).1, [], (keyR s l draw).2.2) := by
  rw [keyR]
  by_cases hx : s.step + 1 < l.step ∨ l.step % 2 = s.step % 2
  · rw [if_pos hx, if_pos hx]
  · rw [if_neg hx, if_neg hx, takeR]
    by_cases h1 : l.step = s.step + 1
    · rw [if_pos h1, if_pos h1, turnR]
      by_cases h2 : 2 ≤ s.step ∧ skipBad s l.prev
      · rw [if_pos h2, if_pos h2]; simp
      · rw [if_neg h2, if_neg h2, dueR]
        split <;> simp
    · rw [if_neg h1, if_neg h1]
      by_cases h2 : l.step + 1 = s.step ∧ s.got ≤ l.count
      · rw [if_pos h2, if_pos h2, dueR]
        split <;> simp
      · rw [if_neg h2, if_neg h2, oldR]
        cases hf : s.kept.find? (isEnt l.step l.count) <;> simp
theorem keyR_law {s : StM} (h : LawQ s) (hk : Keyed s) (hn : s.kept.length ≤ 100) (l : LetM) (draw : Nat) (hl1 : 1 ≤ l.step) (hl2 : l.step ≤ 29) (hc : l.count ≤ 49) (hp : l.prev ≤ 50) (hpub : Pub (l.pub : Int)) (hd : Sec (draw : Int)) (hok : (keyR s l draw).1 = 0) :
    LawQ (keyR s l draw).2.2 ∧ Keyed (keyR s l draw).2.2 ∧ (keyR s l draw).2.1.length = 8 ∧ (keyR s l draw).2.2.cap = s.cap ∧ (keyR s l draw).2.2.kept.length ≤ 255 := by
  have e := keyR_take s l draw
  by_cases hx : s.step + 1 < l.step ∨ l.step % 2 = s.step % 2
  · rw [if_pos hx] at e
    rw [e] at hok; simp at hok
  · rw [if_neg hx] at e
    by_cases h0 : (takeR s l draw).1 = 0
    · rw [if_pos h0] at e
      obtain ⟨a, b, c, d, f⟩ := take_law h hk l draw hl1 hl2 hc hp hpub hd h0; rw [e]
      exact ⟨a, b, c, d, by omega⟩
    · rw [if_neg h0] at e
      rw [e] at hok
      exact absurd hok h0
def recvR (s : StM) (l : LetM) (draw : Nat) : Int × List UInt8 × StM :=
  if (keyR s l draw).1 = 0 then (if opensL (keyR s l draw).2.1 l.head l.body then (0, veil (keyR s l draw).2.1 (l.body.take (l.body.length - 8)), capS (keyR s l draw).2.2) else (5, [], s)) else ((keyR s l draw).1, [], s)
theorem recv_err (s : StM) (aa : Option Addr) (nn cc : Nat) (l : LetM) (draw : Nat) (A : Nat → Prop) (w : World) (h255 : s.step ≤ 255) (hls : l.step ≤ 254) (hc : l.count ≤ 254) (hpv : l.prev ≤ 150) (hl : s.kept.length ≤ 100) (hin : s.inn.length = 8) (hroot : s.root.length = 8) (hs : s.secret < 2147483647) (hp : l.pub < 2147483647) (hd : draw < 2147483647) (hv : EntsAt w (.slice aa nn cc) s.kept) (ho : Off A (.slice aa nn cc)) (hA : ∀ g, A g → g < w.heap.size) (hky : (keyR s l draw).1 = 0 → (keyR s l draw).2.1.length = 8 ∧ (keyR s l draw).2.2.cap ≤ 30 ∧ (keyR s l draw).2.2.kept.length ≤ 255) (hhd : l.head.length ≤ 1000) (hb8 : 8 ≤ l.body.length) (hbd : l.body.length ≤ 1000) (hx : (keyR s l draw).1 ≠ 0) :
    Calls Try.prog 44 #[.agg #[.int .i64 s.role, .int .i64 s.step, .int .i64 s.sent, .int .i64 s.got, .int .i64 s.prev, .int .i64 s.skip, .int .i64 s.cap, .string (str s.root), .string (str s.out), .string (str s.inn), .int .i64 s.secret, .int .i64 s.peer, .slice aa nn cc], .agg #[.int .i64 l.step, .int .i64 l.count, .int .i64 l.prev, .int .i64 l.pub, .string (str l.head), .string (str l.body)], .int .i64 draw] w fun e w' => TakeOut (recvR s l draw) A w' e ∧ Below w.heap.size w w' := by
  have HA := hid hA
  have HQ : Hid (recvR s l draw = ((keyR s l draw).1, [], s)) := by
    show _ = _
    rw [recvR, if_neg hx]
  have HX := hid hx
  go_enter Try.func44, Try.ntmps44
  go_upto_region 1 with fail
  obtain ⟨wb, ewb, hB, hL, hR, hW, hlt⟩ := alloc3e w (.cells #[.int .i64 s.role, .int .i64 s.step, .int .i64 s.sent, .int .i64 s.got, .int .i64 s.prev, .int .i64 s.skip, .int .i64 s.cap, .string (str s.root), .string (str s.out), .string (str s.inn), .int .i64 s.secret, .int .i64 s.peer, .slice aa nn cc] 84) (.cells #[.int .i64 l.step, .int .i64 l.count, .int .i64 l.prev, .int .i64 l.pub, .string (str l.head), .string (str l.body)] 96) (.cells #[.int .i64 0, .int .i64 0, .int .i64 0, .int .i64 0, .int .i64 0, .int .i64 0, .int .i64 0, .string ⟨#[]⟩, .string ⟨#[]⟩, .string ⟨#[]⟩, .int .i64 0, .int .i64 0, .slice none 0 0] 84); rw [← ewb]; clear ewb; have HB := hid hB; have HL := hid hL; have HR := hid hR; have HW := hid hW
  have cd := talkKeyOf_any s aa nn cc l draw (With A w.heap.size (w.heap.size + 1 + 1 + 1)) wb h255 hls hc hpv hl hin hroot hs hp hd (hv.next hW) (ho.with hv _) (fun g hg => by rcases hg with hg | hg; (have := HA.out g hg; omega); omega)
  have cE : Calls Try.prog 67 #[.agg #[.int .i64 s.role, .int .i64 s.step, .int .i64 s.sent, .int .i64 s.got, .int .i64 s.prev, .int .i64 s.skip, .int .i64 s.cap, .string (str s.root), .string (str s.out), .string (str s.inn), .int .i64 s.secret, .int .i64 s.peer, .slice aa nn cc], .agg #[.int .i64 l.step, .int .i64 l.count, .int .i64 l.prev, .int .i64 l.pub, .string (str l.head), .string (str l.body)], .int .i64 draw] wb fun e w' => e = .returned (.tuple #[.string ⟨#[]⟩, .agg #[.int .i64 0, .int .i64 0, .int .i64 0, .int .i64 0, .int .i64 0, .int .i64 0, .int .i64 0, .string ⟨#[]⟩, .string ⟨#[]⟩, .string ⟨#[]⟩, .int .i64 0, .int .i64 0, .slice none 0 0], .int .i64 (keyR s l draw).1]) ∧ Below wb.heap.size wb w' := by
    refine cd.mono ?_
    rintro e w' ⟨q, hw⟩
    rcases q with ⟨_, q⟩ | ⟨q, _⟩
    · exact ⟨q, hw⟩
    · exact absurd q hx
  have i1 : ((keyR s l draw).1 == 0) = false := by rw [beq_eq_false_iff_ne]; exact hx
  clear cd hx hky
  obtain ⟨er, her⟩ : ∃ er, er = (keyR s l draw).1 := ⟨_, rfl⟩
  rw [← her] at cE i1
  have HER : Hid (er = (keyR s l draw).1) := her; clear her; obtain ⟨k0, k1, k2, k3, k4, k5, k6, k7, k8, k9, k10, k11, k12⟩ := cells13 hB; obtain ⟨q0, q1, q2, q3, q4, q5⟩ := cells6 hL; clear hB hL hR hW hv ho hA
  go_upto_region 3 with (first | (go_at_call 67; (with_reducible refine cE.mono ?_); rintro e w2 ⟨rfl, hb2⟩))
  have hR2 := (hb2.block (w.heap.size + 1 + 1) (by omega)).trans HR.out
  have HW2 : Hid (Below w.heap.size w w2) := below_tr HW.out hb2; have hsz2 := hb2.size; obtain ⟨a0, a1, a2, a3, a4, a5, a6, a7, a8, a9, a10, a11, a12⟩ := cells13 hR2
  have fA : ∀ j, w2.frozen? ⟨w.heap.size + 1 + 1, j, none⟩ = false := fun j => frozen_of_row w2 _ j _ _ hR2
  have hlt2 : w.heap.size + 1 + 1 < w2.heap.size := by omega
  clear hR2 hb2 cE k0 k1 k2 k3 k4 k5 k6 k7 k8 k9 k10 k11 k12 q0 q1 q2 q3 q4 q5; go_wp2
  (try simp only [Exit.inBlock, Exit.then])
  refine bodyPost_ret (v := .tuple #[.string ⟨#[]⟩, .agg #[.int .i64 0, .int .i64 0, .int .i64 0, .int .i64 0, .int .i64 0, .int .i64 0, .int .i64 0, .string ⟨#[]⟩, .string ⟨#[]⟩, .string ⟨#[]⟩, .int .i64 0, .int .i64 0, .slice none 0 0], .int .i64 er]) ?_ ?_ ?_
  · rw [results_tct (fn := Try.f44) rfl]; simp [go_sem, hlt2, a0, a1, a2, a3, a4, a5, a6, a7, a8, a9, a10, a11, a12]
  · rfl
  · refine ⟨by rw [HQ.out]; exact .inl ⟨HX.out, by rw [HER.out]⟩, ?_⟩
    have hw := HW2.out
    repeat (first | (with_reducible refine Below.setCell ?_ (by show w.heap.size ≤ w.heap.size + 1 + 1; omega) _) | (with_reducible refine Below.alloc ?_ (by simp; omega) _))
    exact hw
theorem recv_no (s : StM) (aa : Option Addr) (nn cc : Nat) (l : LetM) (draw : Nat) (A : Nat → Prop) (w : World) (h255 : s.step ≤ 255) (hls : l.step ≤ 254) (hc : l.count ≤ 254) (hpv : l.prev ≤ 150) (hl : s.kept.length ≤ 100) (hin : s.inn.length = 8) (hroot : s.root.length = 8) (hs : s.secret < 2147483647) (hp : l.pub < 2147483647) (hd : draw < 2147483647) (hv : EntsAt w (.slice aa nn cc) s.kept) (ho : Off A (.slice aa nn cc)) (hA : ∀ g, A g → g < w.heap.size) (hky : (keyR s l draw).1 = 0 → (keyR s l draw).2.1.length = 8 ∧ (keyR s l draw).2.2.cap ≤ 30 ∧ (keyR s l draw).2.2.kept.length ≤ 255) (hhd : l.head.length ≤ 1000) (hb8 : 8 ≤ l.body.length) (hbd : l.body.length ≤ 1000) (hx : (keyR s l draw).1 = 0) (hop : ¬ opensL (keyR s l draw).2.1 l.head l.body) :
    Calls Try.prog 44 #[.agg #[.int .i64 s.role, .int .i64 s.step, .int .i64 s.sent, .int .i64 s.got, .int .i64 s.prev, .int .i64 s.skip, .int .i64 s.cap, .string (str s.root), .string (str s.out), .string (str s.inn), .int .i64 s.secret, .int .i64 s.peer, .slice aa nn cc], .agg #[.int .i64 l.step, .int .i64 l.count, .int .i64 l.prev, .int .i64 l.pub, .string (str l.head), .string (str l.body)], .int .i64 draw] w fun e w' => TakeOut (recvR s l draw) A w' e ∧ Below w.heap.size w w' := by
  have HA := hid hA
  have HQ : Hid (recvR s l draw = (5, [], s)) := by
    show _ = _
    rw [recvR, if_pos hx, if_neg hop]
  go_enter Try.func44, Try.ntmps44
  go_upto_region 1 with fail
  obtain ⟨wb, ewb, hB, hL, hR, hW, hlt⟩ := alloc3e w (.cells #[.int .i64 s.role, .int .i64 s.step, .int .i64 s.sent, .int .i64 s.got, .int .i64 s.prev, .int .i64 s.skip, .int .i64 s.cap, .string (str s.root), .string (str s.out), .string (str s.inn), .int .i64 s.secret, .int .i64 s.peer, .slice aa nn cc] 84) (.cells #[.int .i64 l.step, .int .i64 l.count, .int .i64 l.prev, .int .i64 l.pub, .string (str l.head), .string (str l.body)] 96) (.cells #[.int .i64 0, .int .i64 0, .int .i64 0, .int .i64 0, .int .i64 0, .int .i64 0, .int .i64 0, .string ⟨#[]⟩, .string ⟨#[]⟩, .string ⟨#[]⟩, .int .i64 0, .int .i64 0, .slice none 0 0] 84); rw [← ewb]; clear ewb; have HB := hid hB; have HL := hid hL; have HR := hid hR; have HW := hid hW
  have cd := talkKeyOf_any s aa nn cc l draw (With A w.heap.size (w.heap.size + 1 + 1 + 1)) wb h255 hls hc hpv hl hin hroot hs hp hd (hv.next hW) (ho.with hv _) (fun g hg => by rcases hg with hg | hg; (have := HA.out g hg; omega); omega)
  have cO : Calls Try.prog 67 #[.agg #[.int .i64 s.role, .int .i64 s.step, .int .i64 s.sent, .int .i64 s.got, .int .i64 s.prev, .int .i64 s.skip, .int .i64 s.cap, .string (str s.root), .string (str s.out), .string (str s.inn), .int .i64 s.secret, .int .i64 s.peer, .slice aa nn cc], .agg #[.int .i64 l.step, .int .i64 l.count, .int .i64 l.prev, .int .i64 l.pub, .string (str l.head), .string (str l.body)], .int .i64 draw] wb fun e w' => (∃ (a : Option Addr) (n c : Nat), e = .returned (.tuple #[.string (str (keyR s l draw).2.1), .agg (stCells (keyR s l draw).2.2 (.slice a n c)), .int .i64 0]) ∧ EntsAt w' (.slice a n c) (keyR s l draw).2.2.kept ∧ Off (With A w.heap.size (w.heap.size + 1 + 1 + 1)) (.slice a n c)) ∧ Below wb.heap.size wb w' := by
    refine cd.mono ?_
    rintro e w' ⟨q, hw⟩
    rcases q with ⟨q, _⟩ | ⟨_, q⟩
    · exact absurd hx q
    · exact ⟨q, hw⟩
  obtain ⟨hk8, hcap, hkl⟩ := hky hx
  have cu := fun w => keysUnseal_no (str (keyR s l draw).2.1) (str l.head) (str l.body) w (by rw [str_size, hk8]; decide) (by rw [str_size]; exact hhd) (by rw [str_size]; exact hb8) (by rw [str_size]; exact hbd) (by rw [str_toList, str_toList, str_toList]; exact hop)
  unfold stCells at cO
  clear cd hx hky hop
  generalize (keyR s l draw) = kr at *
  obtain ⟨k0, ky, q⟩ := kr
  (try dsimp only at cO)
  (try dsimp only at cu)
  (try dsimp only at HQ)
  (try dsimp only at hk8)
  (try dsimp only at hcap)
  (try dsimp only at hkl)
  (try simp only [str_toList, str_size] at cu)
  obtain ⟨sk, hsk⟩ : ∃ x, x = str ky := ⟨_, rfl⟩
  rw [← hsk] at cO cu
  clear hsk hk8; obtain ⟨k0, k1, k2, k3, k4, k5, k6, k7, k8, k9, k10, k11, k12⟩ := cells13 hB; obtain ⟨q0, q1, q2, q3, q4, q5⟩ := cells6 hL; clear hB hL hR hW hv ho hA
  go_upto_region 4 with (first | (go_at_call 67; (with_reducible refine cO.mono ?_); rintro e w2 ⟨⟨a, n, c, rfl, he2, ho2⟩, hb2⟩))
  have hsz2 := hb2.size
  obtain ⟨ob, eob⟩ : ∃ ob, ob = Obj.cells #[.int .i64 q.role, .int .i64 q.step, .int .i64 q.sent, .int .i64 q.got, .int .i64 q.prev, .int .i64 q.skip, .int .i64 q.cap, .string (str q.root), .string (str q.out), .string (str q.inn), .int .i64 q.secret, .int .i64 q.peer, .slice a n c] 84 := ⟨_, rfl⟩
  rw [← eob]; have hP := heap_alloc_new w2 ob
  have hL2 : (w2.alloc ob).heap[w.heap.size + 1]? = some (.cells #[.int .i64 l.step, .int .i64 l.count, .int .i64 l.prev, .int .i64 l.pub, .string (str l.head), .string (str l.body)] 96) := (Below.heap_alloc _ _ _ (by omega)).trans ((hb2.block (w.heap.size + 1) (by omega)).trans HL.out)
  have hR2 : (w2.alloc ob).heap[w.heap.size + 1 + 1]? = some (.cells #[.int .i64 0, .int .i64 0, .int .i64 0, .int .i64 0, .int .i64 0, .int .i64 0, .int .i64 0, .string ⟨#[]⟩, .string ⟨#[]⟩, .string ⟨#[]⟩, .int .i64 0, .int .i64 0, .slice none 0 0] 84) := (Below.heap_alloc _ _ _ (by omega)).trans ((hb2.block (w.heap.size + 1 + 1) (by omega)).trans HR.out)
  have hE2 : EntsAt (w2.alloc ob) (.slice a n c) q.kept := he2.next ((Below.refl _ _).alloc (Nat.le_refl _) _); have hW2 : Below w.heap.size w (w2.alloc ob) := below_tr (below_tr HW.out hb2) ((Below.refl _ _).alloc (Nat.le_refl _) _)
  have hltP : w2.heap.size < (w2.alloc ob).heap.size := by simp
  have hltR : w.heap.size + 1 + 1 < w2.heap.size := by omega
  generalize (w2.alloc ob) = wp at hP hL2 hR2 hE2 hW2 hltP ⊢
  subst eob
  generalize w2.heap.size = PB at hP hltP hltR ⊢
  have HP := hid hP; have HR2 := hid hR2; have HE2 := hid hE2; have HW2 := hid hW2; clear k0 k1 k2 k3 k4 k5 k6 k7 k8 k9 k10 k11 k12 q0 q1 q2 q3 q4 q5; have q4 : wp.cell? ⟨w.heap.size + 1, 4, none⟩ = some (.string (str l.head)) := cell_of_row wp _ 4 _ _ _ hL2; have q5 : wp.cell? ⟨w.heap.size + 1, 5, none⟩ = some (.string (str l.body)) := cell_of_row wp _ 5 _ _ _ hL2; clear hP hL2 hR2 hE2 hW2 he2 ho2 hb2 cO hsz2 HB HL HR HW
  go_upto_region 6 with (first | (go_at_call 68; (with_reducible refine (cu _).mono ?_); rintro e w3 ⟨rfl, hb3⟩))
  have hsz3 := hb3.size
  have hR3 := (hb3.block (w.heap.size + 1 + 1) (by omega)).trans HR2.out
  have HW3 : Hid (Below w.heap.size w w3) := below_tr HW2.out hb3; obtain ⟨a0, a1, a2, a3, a4, a5, a6, a7, a8, a9, a10, a11, a12⟩ := cells13 hR3
  have fA : ∀ j, w3.frozen? ⟨w.heap.size + 1 + 1, j, none⟩ = false := fun j => frozen_of_row w3 _ j _ _ hR3
  have hlt2 : w.heap.size + 1 + 1 < w3.heap.size := by omega
  clear hR3 hb3 cu q4 q5 HP HR2 HE2 HW2; go_wp2
  (try simp only [Exit.inBlock, Exit.then])
  refine bodyPost_ret (v := .tuple #[.string ⟨#[]⟩, .agg #[.int .i64 0, .int .i64 0, .int .i64 0, .int .i64 0, .int .i64 0, .int .i64 0, .int .i64 0, .string ⟨#[]⟩, .string ⟨#[]⟩, .string ⟨#[]⟩, .int .i64 0, .int .i64 0, .slice none 0 0], .int .i64 5]) ?_ ?_ ?_
  · rw [results_tct (fn := Try.f44) rfl]; simp [go_sem, a0, a1, a2, a3, a4, a5, a6, a7, a8, a9, a10, a11, a12]
  · rfl
  · refine ⟨by rw [HQ.out]; exact .inl ⟨by simp, rfl⟩, ?_⟩
    repeat (with_reducible refine Below.setCell ?_ (by show w.heap.size ≤ w.heap.size + 1 + 1; omega) _)
    exact HW3.out
theorem recv_yes (s : StM) (aa : Option Addr) (nn cc : Nat) (l : LetM) (draw : Nat) (A : Nat → Prop) (w : World) (h255 : s.step ≤ 255) (hls : l.step ≤ 254) (hc : l.count ≤ 254) (hpv : l.prev ≤ 150) (hl : s.kept.length ≤ 100) (hin : s.inn.length = 8) (hroot : s.root.length = 8) (hs : s.secret < 2147483647) (hp : l.pub < 2147483647) (hd : draw < 2147483647) (hv : EntsAt w (.slice aa nn cc) s.kept) (ho : Off A (.slice aa nn cc)) (hA : ∀ g, A g → g < w.heap.size) (hky : (keyR s l draw).1 = 0 → (keyR s l draw).2.1.length = 8 ∧ (keyR s l draw).2.2.cap ≤ 30 ∧ (keyR s l draw).2.2.kept.length ≤ 255) (hhd : l.head.length ≤ 1000) (hb8 : 8 ≤ l.body.length) (hbd : l.body.length ≤ 1000) (hx : (keyR s l draw).1 = 0) (hop : opensL (keyR s l draw).2.1 l.head l.body) :
    Calls Try.prog 44 #[.agg #[.int .i64 s.role, .int .i64 s.step, .int .i64 s.sent, .int .i64 s.got, .int .i64 s.prev, .int .i64 s.skip, .int .i64 s.cap, .string (str s.root), .string (str s.out), .string (str s.inn), .int .i64 s.secret, .int .i64 s.peer, .slice aa nn cc], .agg #[.int .i64 l.step, .int .i64 l.count, .int .i64 l.prev, .int .i64 l.pub, .string (str l.head), .string (str l.body)], .int .i64 draw] w fun e w' => TakeOut (recvR s l draw) A w' e ∧ Below w.heap.size w w' := by
  have HA := hid hA
  have HQ : Hid (recvR s l draw = (0, veil (keyR s l draw).2.1 (l.body.take (l.body.length - 8)), capS (keyR s l draw).2.2)) := by
    show _ = _
    rw [recvR, if_pos hx, if_pos hop]
  go_enter Try.func44, Try.ntmps44
  go_upto_region 1 with fail
  obtain ⟨wb, ewb, hB, hL, hR, hW, hlt⟩ := alloc3e w (.cells #[.int .i64 s.role, .int .i64 s.step, .int .i64 s.sent, .int .i64 s.got, .int .i64 s.prev, .int .i64 s.skip, .int .i64 s.cap, .string (str s.root), .string (str s.out), .string (str s.inn), .int .i64 s.secret, .int .i64 s.peer, .slice aa nn cc] 84) (.cells #[.int .i64 l.step, .int .i64 l.count, .int .i64 l.prev, .int .i64 l.pub, .string (str l.head), .string (str l.body)] 96) (.cells #[.int .i64 0, .int .i64 0, .int .i64 0, .int .i64 0, .int .i64 0, .int .i64 0, .int .i64 0, .string ⟨#[]⟩, .string ⟨#[]⟩, .string ⟨#[]⟩, .int .i64 0, .int .i64 0, .slice none 0 0] 84); rw [← ewb]; clear ewb; have HB := hid hB; have HL := hid hL; have HR := hid hR; have HW := hid hW
  have cd := talkKeyOf_any s aa nn cc l draw (With A w.heap.size (w.heap.size + 1 + 1 + 1)) wb h255 hls hc hpv hl hin hroot hs hp hd (hv.next hW) (ho.with hv _) (fun g hg => by rcases hg with hg | hg; (have := HA.out g hg; omega); omega)
  have cO : Calls Try.prog 67 #[.agg #[.int .i64 s.role, .int .i64 s.step, .int .i64 s.sent, .int .i64 s.got, .int .i64 s.prev, .int .i64 s.skip, .int .i64 s.cap, .string (str s.root), .string (str s.out), .string (str s.inn), .int .i64 s.secret, .int .i64 s.peer, .slice aa nn cc], .agg #[.int .i64 l.step, .int .i64 l.count, .int .i64 l.prev, .int .i64 l.pub, .string (str l.head), .string (str l.body)], .int .i64 draw] wb fun e w' => (∃ (a : Option Addr) (n c : Nat), e = .returned (.tuple #[.string (str (keyR s l draw).2.1), .agg (stCells (keyR s l draw).2.2 (.slice a n c)), .int .i64 0]) ∧ EntsAt w' (.slice a n c) (keyR s l draw).2.2.kept ∧ Off (With A w.heap.size (w.heap.size + 1 + 1 + 1)) (.slice a n c)) ∧ Below wb.heap.size wb w' := by
    refine cd.mono ?_
    rintro e w' ⟨q, hw⟩
    rcases q with ⟨q, _⟩ | ⟨_, q⟩
    · exact absurd hx q
    · exact ⟨q, hw⟩
  obtain ⟨hk8, hcap, hkl⟩ := hky hx
  have cu := fun w => keysUnseal_yes (str (keyR s l draw).2.1) (str l.head) (str l.body) w (by rw [str_size, hk8]; decide) (by rw [str_size]; exact hhd) (by rw [str_size]; exact hb8) (by rw [str_size]; exact hbd) (by rw [str_toList, str_toList, str_toList]; exact hop)
  unfold stCells at cO
  clear cd hx hky hop
  generalize (keyR s l draw) = kr at *
  obtain ⟨k0, ky, q⟩ := kr
  (try dsimp only at cO)
  (try dsimp only at cu)
  (try dsimp only at HQ)
  (try dsimp only at hk8)
  (try dsimp only at hcap)
  (try dsimp only at hkl)
  (try simp only [str_toList, str_size] at cu)
  obtain ⟨sk, hsk⟩ : ∃ x, x = str ky := ⟨_, rfl⟩
  rw [← hsk] at cO cu
  clear hsk hk8; obtain ⟨k0, k1, k2, k3, k4, k5, k6, k7, k8, k9, k10, k11, k12⟩ := cells13 hB; obtain ⟨q0, q1, q2, q3, q4, q5⟩ := cells6 hL; clear hB hL hR hW hv ho hA
  go_upto_region 4 with (first | (go_at_call 67; (with_reducible refine cO.mono ?_); rintro e w2 ⟨⟨a, n, c, rfl, he2, ho2⟩, hb2⟩))
  have hsz2 := hb2.size
  obtain ⟨ob, eob⟩ : ∃ ob, ob = Obj.cells #[.int .i64 q.role, .int .i64 q.step, .int .i64 q.sent, .int .i64 q.got, .int .i64 q.prev, .int .i64 q.skip, .int .i64 q.cap, .string (str q.root), .string (str q.out), .string (str q.inn), .int .i64 q.secret, .int .i64 q.peer, .slice a n c] 84 := ⟨_, rfl⟩
  rw [← eob]; have hP := heap_alloc_new w2 ob
  have hL2 : (w2.alloc ob).heap[w.heap.size + 1]? = some (.cells #[.int .i64 l.step, .int .i64 l.count, .int .i64 l.prev, .int .i64 l.pub, .string (str l.head), .string (str l.body)] 96) := (Below.heap_alloc _ _ _ (by omega)).trans ((hb2.block (w.heap.size + 1) (by omega)).trans HL.out)
  have hR2 : (w2.alloc ob).heap[w.heap.size + 1 + 1]? = some (.cells #[.int .i64 0, .int .i64 0, .int .i64 0, .int .i64 0, .int .i64 0, .int .i64 0, .int .i64 0, .string ⟨#[]⟩, .string ⟨#[]⟩, .string ⟨#[]⟩, .int .i64 0, .int .i64 0, .slice none 0 0] 84) := (Below.heap_alloc _ _ _ (by omega)).trans ((hb2.block (w.heap.size + 1 + 1) (by omega)).trans HR.out)
  have hE2 : EntsAt (w2.alloc ob) (.slice a n c) q.kept := he2.next ((Below.refl _ _).alloc (Nat.le_refl _) _); have hW2 : Below w.heap.size w (w2.alloc ob) := below_tr (below_tr HW.out hb2) ((Below.refl _ _).alloc (Nat.le_refl _) _)
  have hltP : w2.heap.size < (w2.alloc ob).heap.size := by simp
  have hltR : w.heap.size + 1 + 1 < w2.heap.size := by omega
  generalize (w2.alloc ob) = wp at hP hL2 hR2 hE2 hW2 hltP ⊢
  subst eob
  generalize w2.heap.size = PB at hP hltP hltR ⊢
  have HP := hid hP; have HR2 := hid hR2; have HE2 := hid hE2; have HW2 := hid hW2; clear k0 k1 k2 k3 k4 k5 k6 k7 k8 k9 k10 k11 k12 q0 q1 q2 q3 q4 q5; have q4 : wp.cell? ⟨w.heap.size + 1, 4, none⟩ = some (.string (str l.head)) := cell_of_row wp _ 4 _ _ _ hL2; have q5 : wp.cell? ⟨w.heap.size + 1, 5, none⟩ = some (.string (str l.body)) := cell_of_row wp _ 5 _ _ _ hL2; clear hP hL2 hR2 hE2 hW2 he2 ho2 hb2 cO hsz2 HB HL HR HW
  obtain ⟨tx, htx⟩ : ∃ x, x = str (veil ky (l.body.take (l.body.length - 8))) := ⟨_, rfl⟩
  rw [← htx] at cu
  have HTX : Hid (tx = str (veil ky (l.body.take (l.body.length - 8)))) := htx
  have HC : Hid (∀ v, stCells (capS q) v = stCells q v) := fun _ => rfl
  have HCK : Hid ((capS q).kept = q.kept.drop (q.kept.length - q.cap)) := rfl; clear htx
  go_upto_region 7 with (first | (go_at_call 68; (with_reducible refine (cu _).mono ?_); rintro e w3 ⟨rfl, hb3⟩))
  have hsz3 := hb3.size; have hP3 := (hb3.block PB hltP).trans HP.out
  have hR3 := (hb3.block (w.heap.size + 1 + 1) (by omega)).trans HR2.out
  have HE3 : Hid (EntsAt w3 (.slice a n c) q.kept) := HE2.out.next hb3; have HW3 : Hid (Below w.heap.size w w3) := below_tr HW2.out hb3; have HP3 := hid hP3; have HR3 := hid hR3; have y6 : w3.cell? ⟨PB, 6, none⟩ = some (.int .i64 q.cap) := cell_of_row w3 _ 6 _ _ _ hP3; have y12 : w3.cell? ⟨PB, 12, none⟩ = some (.slice a n c) := cell_of_row w3 _ 12 _ _ _ hP3
  have hlt3 : PB < w3.heap.size := by omega
  have cg := fun w hv => greatest_any q.kept (.slice a n c) q.cap w hv (by omega) (by omega)
  clear hP3 hR3 hb3 cu q4 q5 HP HR2 HE2 HW2 hsz3 hltP
  generalize q.kept.drop (q.kept.length - q.cap) = fl at *
  go_upto_region 8 with (first | (go_at_call 69; (with_reducible refine (cg _ HE3.out).mono ?_); rintro e w4 ⟨⟨v4, rfl, hown⟩, hb4⟩; obtain ⟨xa, xn, xc, hvv⟩ := ownsK_form hown; subst hvv; have hP4 := (hb4.block PB (by omega)).trans HP3.out; have hR4 := (hb4.block (w.heap.size + 1 + 1) (by omega)).trans HR3.out; have z12 : w4.cell? ⟨PB, 12, none⟩ = some (.slice a n c) := cell_of_row w4 _ 12 _ _ _ hP4; have fB : ∀ j, w4.frozen? ⟨PB, j, none⟩ = false := fun j => frozen_of_row w4 _ j _ _ hP4; have HP4 := hid hP4; have HR4 := hid hR4; have HW4 : Hid (Below w.heap.size w w4) := below_tr HW3.out hb4; have HOW := hid hown; clear hP4 hR4 hb4 hown))
  have hX : (w4.setCell ⟨PB, 12, none⟩ (.slice xa xn xc)).heap[PB]? = some (.cells #[.int .i64 q.role, .int .i64 q.step, .int .i64 q.sent, .int .i64 q.got, .int .i64 q.prev, .int .i64 q.skip, .int .i64 q.cap, .string (str q.root), .string (str q.out), .string (str q.inn), .int .i64 q.secret, .int .i64 q.peer, .slice xa xn xc] 84) := heap_setCell_same _ _ _ _ _ _ HP4.out
  have hY := (heap_setCell_other w4 ⟨PB, 12, none⟩ (w.heap.size + 1 + 1) (.slice xa xn xc) (by show w.heap.size + 1 + 1 ≠ PB; omega)).trans HR4.out
  have hO : (w4.setCell ⟨PB, 12, none⟩ (.slice xa xn xc)).ownsRow w3.heap.size 142 3 (.slice xa xn xc) fl.length (entsCells fl) := ownsRow_setCell_below HOW.out (by show PB < _; omega) _
  have hZ : Below w.heap.size w (w4.setCell ⟨PB, 12, none⟩ (.slice xa xn xc)) := HW4.out.setCell (by show w.heap.size ≤ PB; omega) _
  generalize (w4.setCell ⟨PB, 12, none⟩ (.slice xa xn xc)) = wz at hX hY hO hZ ⊢
  obtain ⟨u0, u1, u2, u3, u4, u5, u6, u7, u8, u9, u10, u11, u12⟩ := cells13 hX; obtain ⟨a0, a1, a2, a3, a4, a5, a6, a7, a8, a9, a10, a11, a12⟩ := cells13 hY
  have fA : ∀ j, wz.frozen? ⟨w.heap.size + 1 + 1, j, none⟩ = false := fun j => frozen_of_row wz _ j _ _ hY
  have HZ := hid hZ; have HOZ := hid hO
  have hw3 : w.heap.size ≤ w3.heap.size := by omega
  clear hX hY hO hZ HP4 HR4 HW4 HOW z12 fB cg y6 y12 HP3 HR3 HE3 HW3
  go_region
  all_goals go_wp2
  all_goals (try simp only [Exit.inBlock, Exit.then])
  all_goals (refine bodyPost_ret (v := .tuple #[.string tx, .agg #[.int .i64 q.role, .int .i64 q.step, .int .i64 q.sent, .int .i64 q.got, .int .i64 q.prev, .int .i64 q.skip, .int .i64 q.cap, .string (str q.root), .string (str q.out), .string (str q.inn), .int .i64 q.secret, .int .i64 q.peer, .slice xa xn xc], .int .i64 0]) ?_ ?_ ?_)
  all_goals first
    | rfl
    | (rw [results_tct (fn := Try.f44) rfl]; simp [go_sem, a0, a1, a2, a3, a4, a5, a6, a7, a8, a9, a10, a11, a12])
    | (refine ⟨?_, ?_⟩
       · rw [HQ.out]
         refine .inr ⟨rfl, xa, xn, xc, by rw [HC.out, HTX.out]; rfl, ?_, Off.own HOZ.out (fun g hg => by have := HA.out g hg; omega)⟩
         show EntsAt _ _ (capS q).kept
         rw [HCK.out]
         refine EntsAt.of_own (base := w3.heap.size) (e := 142) ?_
         repeat (first | (with_reducible refine ownsRow_setCell_below ?_ (by show w.heap.size + 1 + 1 < w3.heap.size; omega) _) | (with_reducible refine ownsRow_drew ?_))
         exact HOZ.out
       · repeat (first | (with_reducible refine Below.setCell ?_ (by show w.heap.size ≤ w.heap.size + 1 + 1; omega) _) | (with_reducible refine Below.drew ?_))
         exact HZ.out)
theorem talkReceive_any (s : StM) (aa : Option Addr) (nn cc : Nat) (l : LetM) (draw : Nat) (A : Nat → Prop) (w : World) (h255 : s.step ≤ 255) (hls : l.step ≤ 254) (hc : l.count ≤ 254) (hpv : l.prev ≤ 150) (hl : s.kept.length ≤ 100) (hin : s.inn.length = 8) (hroot : s.root.length = 8) (hs : s.secret < 2147483647) (hp : l.pub < 2147483647) (hd : draw < 2147483647) (hv : EntsAt w (.slice aa nn cc) s.kept) (ho : Off A (.slice aa nn cc)) (hA : ∀ g, A g → g < w.heap.size) (hky : (keyR s l draw).1 = 0 → (keyR s l draw).2.1.length = 8 ∧ (keyR s l draw).2.2.cap ≤ 30 ∧ (keyR s l draw).2.2.kept.length ≤ 255) (hhd : l.head.length ≤ 1000) (hb8 : 8 ≤ l.body.length) (hbd : l.body.length ≤ 1000) :
    Calls Try.prog 44 #[.agg #[.int .i64 s.role, .int .i64 s.step, .int .i64 s.sent, .int .i64 s.got, .int .i64 s.prev, .int .i64 s.skip, .int .i64 s.cap, .string (str s.root), .string (str s.out), .string (str s.inn), .int .i64 s.secret, .int .i64 s.peer, .slice aa nn cc], .agg #[.int .i64 l.step, .int .i64 l.count, .int .i64 l.prev, .int .i64 l.pub, .string (str l.head), .string (str l.body)], .int .i64 draw] w fun e w' => TakeOut (recvR s l draw) A w' e ∧ Below w.heap.size w w' := by
  by_cases hx : (keyR s l draw).1 = 0
  · by_cases hop : opensL (keyR s l draw).2.1 l.head l.body
    · exact recv_yes s aa nn cc l draw A w h255 hls hc hpv hl hin hroot hs hp hd hv ho hA hky hhd hb8 hbd hx hop
    · exact recv_no s aa nn cc l draw A w h255 hls hc hpv hl hin hroot hs hp hd hv ho hA hky hhd hb8 hbd hx hop
  · exact recv_err s aa nn cc l draw A w h255 hls hc hpv hl hin hroot hs hp hd hv ho hA hky hhd hb8 hbd hx
def recvErr (d t : List UInt8) (draw : Int) : Int := if openErr d = 0 then (if Sec draw then (if letOk t then (recvR (heldS d) (letOf t) draw.toNat).1 else 4) else 3) else openErr d
def recvS (d t : List UInt8) (draw : Int) : StM := (recvR (heldS d) (letOf t) draw.toNat).2.2
def recvTxt (d t : List UInt8) (draw : Int) : List UInt8 := if recvErr d t draw = 0 then (recvR (heldS d) (letOf t) draw.toNat).2.1 else []
def recvTo (d t : List UInt8) (draw : Int) : List UInt8 := if recvErr d t draw = 0 then packL (recvS d t draw) (1 - liveL d) d.length else []
def recvPlan (d t : List UInt8) (draw : Int) : List UInt8 := if recvErr d t draw = 0 then encL (rplR d (packL (recvS d t draw) (1 - liveL d) d.length) (heldS d).cap (liveL d)) else []
theorem recv_bd (s : StM) (l : LetM) (draw : Nat) : 0 ≤ (recvR s l draw).1 ∧ (recvR s l draw).1 ≤ 17 := by
  have hk : 0 ≤ (keyR s l draw).1 ∧ (keyR s l draw).1 ≤ 17 := by
    rw [keyR_take]
    split
    · simp
    · have : 0 ≤ (takeR s l draw).1 ∧ (takeR s l draw).1 ≤ 17 := by
        rw [takeR]
        repeat' split
        all_goals simp
      split <;> simpa using this
  rw [recvR]
  split
  · split <;> simp
  · exact hk
theorem recv_law {s : StM} (h : LawQ s) (hk : Keyed s) (hn : s.kept.length ≤ 100) (l : LetM) (draw : Nat) (hl1 : 1 ≤ l.step) (hl2 : l.step ≤ 29) (hc : l.count ≤ 49) (hp : l.prev ≤ 50) (hpub : Pub (l.pub : Int)) (hd : Sec (draw : Int)) (hok : (recvR s l draw).1 = 0) :
    LawQ (recvR s l draw).2.2 ∧ Keyed (recvR s l draw).2.2 ∧ (recvR s l draw).2.2.cap = s.cap ∧ (recvR s l draw).2.2.kept.length ≤ (recvR s l draw).2.2.cap := by
  rw [recvR] at hok ⊢
  by_cases h0 : (keyR s l draw).1 = 0
  · rw [if_pos h0] at hok ⊢
    obtain ⟨a, b, c, e, f⟩ := keyR_law h hk hn l draw hl1 hl2 hc hp hpub hd h0
    by_cases ho : opensL (keyR s l draw).2.1 l.head l.body
    · rw [if_pos ho]; obtain ⟨x, y, z⟩ := cap_law a b; exact ⟨x, y, e, z⟩
    · rw [if_neg ho] at hok; simp at hok
  · rw [if_neg h0] at hok
    exact absurd hok h0
theorem letOk_parts {t : List UInt8} (h : letOk t) : 1 ≤ (letOf t).step ∧ (letOf t).step ≤ 29 ∧ (letOf t).count ≤ 49 ∧ (letOf t).prev ≤ 50 ∧ Pub ((letOf t).pub : Int) ∧ (letOf t).head.length = 7 ∧ 8 ≤ (letOf t).body.length ∧ (letOf t).body.length ≤ 48 := by
  obtain ⟨⟨a, b⟩, c1, c2, c3, c4, c5⟩ := h
  refine ⟨c1, c2, c3, c4, c5, ?_, ?_, ?_⟩
  · show (t.take 7).length = 7
    rw [List.length_take]; omega
  · show 8 ≤ (t.drop 7).length
    rw [List.length_drop]; omega
  · show (t.drop 7).length ≤ 48
    rw [List.length_drop]; omega
theorem recvErr_ok {d t : List UInt8} {draw : Int} (h : recvErr d t draw = 0) : openErr d = 0 ∧ Sec draw ∧ letOk t ∧ (recvR (heldS d) (letOf t) draw.toNat).1 = 0 := by
  have hp := open_pos d
  rw [recvErr] at h
  split at h
  · next h0 =>
    split at h
    · next h1 =>
      split at h
      · next h2 => exact ⟨h0, h1, h2, h⟩
      · omega
    · omega
  · next h0 => exact absurd h h0
theorem sec_nat {x : Int} (h : Sec x) : ((x.toNat : Nat) : Int) = x := Int.toNat_of_nonneg (by have := h.1; omega)
theorem recv_safe (d t : List UInt8) (draw : Int) (h : recvErr d t draw = 0) : ∃ k, isDiskL d = true ∧ d.length = k * 32 ∧ 1 ≤ k ∧ k ≤ 40 ∧
    recvTo d t draw = packL (recvS d t draw) (1 - liveL d) (k * 32) ∧
    recvPlan d t draw = encL (rplR d (recvTo d t draw) (heldS d).cap (liveL d)) ∧
    recsL (recvPlan d t draw) k = some (rplR d (recvTo d t draw) (heldS d).cap (liveL d)) ∧
    (∀ kq, leftL d (rplR d (recvTo d t draw) (heldS d).cap (liveL d)) (rplR d (recvTo d t draw) (heldS d).cap (liveL d)).length kq = recvTo d t draw) ∧
    ∀ m kq, m ≤ (rplR d (recvTo d t draw) (heldS d).cap (liveL d)).length → repairR (leftL d (rplR d (recvTo d t draw) (heldS d).cap (liveL d)) m kq) = (d, 0) ∨ repairR (leftL d (rplR d (recvTo d t draw) (heldS d).cap (liveL d)) m kq) = (recvTo d t draw, 0) := by
  obtain ⟨h0, hs, hl, hr⟩ := recvErr_ok h; obtain ⟨k, hg⟩ := open_good _ h0; obtain ⟨gl, gk⟩ := good_lawQ hg; have hkl := hg.kept; have hcap := hg.cap; obtain ⟨p1, p2, p3, p4, p5, p6, p7, p8⟩ := letOk_parts hl
  obtain ⟨xl, xk, xc, xn⟩ := recv_law gl gk (by omega) (letOf t) draw.toNat p1 p2 p3 p4 p5 (by rw [sec_nat hs]; exact hs) hr
  have e1 : recvS d t draw = (recvR (heldS d) (letOf t) draw.toNat).2.2 := by rw [recvS]
  rw [← e1] at xl xk xc xn
  have hok2 : StOk (recvS d t draw) := stOk_of xl xk (by omega)
  have hto : recvTo d t draw = packL (recvS d t draw) (1 - liveL d) (k * 32) := by rw [recvTo, if_pos h, hg.len]
  have hpl : recvPlan d t draw = encL (rplR d (recvTo d t draw) (heldS d).cap (liveL d)) := by rw [recvPlan, if_pos h, hto, hg.len]
  generalize recvS d t draw = s2 at *
  have hs := rpl_safe (s := heldS d) (s2 := s2) (liveL d) k hg.ok hkl hcap hg.live hg.need hg.k2 hg.law hok2 xn ((law_iff _).2 ⟨xl, xn⟩) xc
  rw [← hg.pack, ← hto] at hs
  obtain ⟨r1, r2, r3⟩ := hs
  exact ⟨k, hg.disk, hg.len, hg.k1, hg.k2, hto, hpl, by rw [hpl]; exact r1, r2, r3⟩
theorem pawlRecv_bad (d t : ByteArray) (draw : Int) (w : World) (hd : d.size ≤ maxLen) (ht : t.size ≤ maxLen) (h : openErr d.data.toList ≠ 0) :
    Calls Try.prog 26 #[.string d, .string t, .int .i64 draw] w fun e w' => e = .returned (.tuple #[.string ⟨#[]⟩, .string ⟨#[]⟩, .int .i64 (openErr d.data.toList)]) ∧ Below w.heap.size w w' := by
  have hI : (openErr d.data.toList == 0) = false := by rw [beq_eq_false_iff_ne]; exact h
  have c1 : ∀ w, Calls Try.prog 37 #[.string d] w fun e w' => e = .returned (.tuple #[.agg zeroCells16, .int .i64 (openErr d.data.toList)]) ∧ Below w.heap.size w w' := by
    intro w
    refine (openDisk_any d w hd).mono ?_
    rintro e w' ⟨q, hb⟩
    rcases q with ⟨q, _⟩ | ⟨_, q⟩
    · exact absurd q h
    · exact ⟨q, hb⟩
  unfold zeroCells16 at c1
  generalize openErr d.data.toList = er at *
  go_enter Try.func26, Try.ntmps26
  go_wp2_with (first | (go_at_call 37; (with_reducible refine (c1 _).mono ?_); rintro e w1 ⟨rfl, hb1⟩))
  go_ret3
  exact ⟨rfl, hb1.alloc hb1.size _⟩
theorem pawlRecv_sec (d t : ByteArray) (draw : Int) (w : World) (hd : d.size ≤ maxLen) (ht : t.size ≤ maxLen) (h : openErr d.data.toList = 0) (hs : ¬ Sec draw) :
    Calls Try.prog 26 #[.string d, .string t, .int .i64 draw] w fun e w' => e = .returned (.tuple #[.string ⟨#[]⟩, .string ⟨#[]⟩, .int .i64 3]) ∧ Below w.heap.size w w' := by
  have c1 : ∀ w, Calls Try.prog 37 #[.string d] w fun e w' => (∃ (a : Option Addr) (n c : Nat), e = .returned (.tuple #[.agg (stateCells 3 (repL d.data.toList) (liveL d.data.toList) (heldS d.data.toList) a n c), .int .i64 0]) ∧ w'.ownsRow w.heap.size 142 3 (.slice a n c) (heldS d.data.toList).kept.length (entsCells (heldS d.data.toList).kept)) ∧ Below w.heap.size w w' := by
    intro w
    refine (openDisk_any d w hd).mono ?_
    rintro e w' ⟨q, hb⟩
    rcases q with ⟨_, q⟩ | ⟨q, _⟩
    · exact ⟨q, hb⟩
    · exact absurd h q
  unfold stateCells at c1
  have c2 := fun w => devIsSecret_any draw w
  rw [decide_eq_false hs] at c2
  generalize str (repL d.data.toList) = rp at *
  generalize heldS d.data.toList = ss at *
  generalize liveL d.data.toList = lv at *
  clear h hs
  go_enter Try.func26, Try.ntmps26
  go_wp2_with (first | (go_at_call 37; (with_reducible refine (c1 _).mono ?_); rintro e w1 ⟨⟨aa, nn, cc, rfl, hown⟩, hb1⟩) | (go_at_call 42; (with_reducible refine (c2 _).mono ?_); rintro e w' ⟨rfl, hw⟩; rw [hw]; clear hw w'))
  go_ret3
  exact ⟨rfl, hb1.alloc hb1.size _⟩
theorem pawlRecv_frame (d t : ByteArray) (draw : Int) (w : World) (hd : d.size ≤ maxLen) (ht : t.size ≤ maxLen) (h : openErr d.data.toList = 0) (hs : Sec draw) (hl : ¬ letOk t.data.toList) :
    Calls Try.prog 26 #[.string d, .string t, .int .i64 draw] w fun e w' => e = .returned (.tuple #[.string ⟨#[]⟩, .string ⟨#[]⟩, .int .i64 4]) ∧ Below w.heap.size w w' := by
  have c1 : ∀ w, Calls Try.prog 37 #[.string d] w fun e w' => (∃ (a : Option Addr) (n c : Nat), e = .returned (.tuple #[.agg (stateCells 3 (repL d.data.toList) (liveL d.data.toList) (heldS d.data.toList) a n c), .int .i64 0]) ∧ w'.ownsRow w.heap.size 142 3 (.slice a n c) (heldS d.data.toList).kept.length (entsCells (heldS d.data.toList).kept)) ∧ Below w.heap.size w w' := by
    intro w
    refine (openDisk_any d w hd).mono ?_
    rintro e w' ⟨q, hb⟩
    rcases q with ⟨_, q⟩ | ⟨q, _⟩
    · exact ⟨q, hb⟩
    · exact absurd h q
  unfold stateCells at c1
  have c2 := fun w => devIsSecret_any draw w
  rw [decide_eq_true hs] at c2
  have c3 : ∀ w, Calls Try.prog 43 #[.string t] w fun e w' => (∃ l : LetM, e = .returned (.tuple #[.agg #[.int .i64 l.step, .int .i64 l.count, .int .i64 l.prev, .int .i64 l.pub, .string (str l.head), .string (str l.body)], .bool false])) ∧ Below w.heap.size w w' := by
    intro w
    refine (lettersRead_any t w ht).mono ?_
    rintro e w' ⟨⟨l, he, _⟩, hb⟩
    rw [decide_eq_false hl] at he
    exact ⟨⟨l, he⟩, hb⟩
  generalize str (repL d.data.toList) = rp at *
  generalize heldS d.data.toList = ss at *
  generalize liveL d.data.toList = lv at *
  clear h hs hl
  go_enter Try.func26, Try.ntmps26
  go_wp2_with (first | (go_at_call 37; (with_reducible refine (c1 _).mono ?_); rintro e w1 ⟨⟨aa, nn, cc, rfl, hown⟩, hb1⟩) | (go_at_call 42; (with_reducible refine (c2 _).mono ?_); rintro e w' ⟨rfl, hw⟩; rw [hw]; clear hw w') | (go_at_call 43; (with_reducible refine (c3 _).mono ?_); rintro e w2 ⟨⟨l, rfl⟩, hb2⟩))
  go_ret3
  refine ⟨rfl, ?_⟩
  have hb3 := below_tr (hb1.alloc hb1.size _) hb2; exact hb3.alloc hb3.size _
theorem pawlRecv_ref (d t : ByteArray) (draw : Int) (w : World) (hd : d.size ≤ maxLen) (ht : t.size ≤ maxLen) (h : openErr d.data.toList = 0) (hs : Sec draw) (hl : letOk t.data.toList) (hr : (recvR (heldS d.data.toList) (letOf t.data.toList) draw.toNat).1 ≠ 0) :
    Calls Try.prog 26 #[.string d, .string t, .int .i64 draw] w fun e w' => e = .returned (.tuple #[.string ⟨#[]⟩, .string ⟨#[]⟩, .int .i64 (recvR (heldS d.data.toList) (letOf t.data.toList) draw.toNat).1]) ∧ Below w.heap.size w w' := by
  obtain ⟨k, hg⟩ := open_good _ h; have hdl := len_list d
  have hk : d.size = k * 32 := by rw [← hdl]; exact hg.len
  have hk2 := hg.k2; have hlv := hg.live; obtain ⟨gl, gk⟩ := good_lawQ hg; have hkl := hg.kept; have hcap := hg.cap; have hneed := hg.need; have hsec := gl.sec.2; have hst := gl.step; obtain ⟨l1, l2, l3, l4, l5, l6, l7, l8⟩ := letOk_parts hl; have hdn := sec_nat hs; have hds := hs.2; have hd1 := hs.1
  have c1 : ∀ w, Calls Try.prog 37 #[.string d] w fun e w' => (∃ (a : Option Addr) (n c : Nat), e = .returned (.tuple #[.agg (stateCells 3 (repL d.data.toList) (liveL d.data.toList) (heldS d.data.toList) a n c), .int .i64 0]) ∧ w'.ownsRow w.heap.size 142 3 (.slice a n c) (heldS d.data.toList).kept.length (entsCells (heldS d.data.toList).kept)) ∧ Below w.heap.size w w' := by
    intro w
    refine (openDisk_any d w hd).mono ?_
    rintro e w' ⟨q, hb⟩
    rcases q with ⟨_, q⟩ | ⟨q, _⟩
    · exact ⟨q, hb⟩
    · exact absurd h q
  unfold stateCells at c1
  have c2 := fun w => devIsSecret_any draw w
  rw [decide_eq_true hs] at c2
  have c3 : ∀ w, Calls Try.prog 43 #[.string t] w fun e w' => e = .returned (.tuple #[.agg #[.int .i64 ((letOf t.data.toList).step : Int), .int .i64 ((letOf t.data.toList).count : Int), .int .i64 ((letOf t.data.toList).prev : Int), .int .i64 ((letOf t.data.toList).pub : Int), .string (str (letOf t.data.toList).head), .string (str (letOf t.data.toList).body)], .bool true]) ∧ Below w.heap.size w w' := by
    intro w
    refine (lettersRead_any t w ht).mono ?_
    rintro e w' ⟨⟨l, he, hq⟩, hb⟩
    rw [decide_eq_true hl, hq hl] at he
    exact ⟨he, hb⟩
  have c4 := fun aa nn cc w hv => talkReceive_any (heldS d.data.toList) aa nn cc (letOf t.data.toList) draw.toNat (fun _ => False) w (by omega) (by omega) (by omega) (by omega) (by omega) gk.inn gk.root (by omega) (by have := l5.2; omega) (by omega) hv (fun g o n c _ h => h) (fun g h => h.elim) (fun h0 => by
    obtain ⟨a, b, c, e, f⟩ := keyR_law gl gk (by omega) (letOf t.data.toList) draw.toNat l1 l2 l3 l4 l5 (by rw [hdn]; exact hs) h0
    exact ⟨c, by omega, f⟩) (by omega) l7 (by omega)
  rw [hdn] at c4
  have hrb := recv_bd (heldS d.data.toList) (letOf t.data.toList) draw.toNat
  generalize str (repL d.data.toList) = rp at *
  generalize heldS d.data.toList = ss at *
  generalize liveL d.data.toList = lv at *
  generalize letOf t.data.toList = l at *
  have c5 : ∀ aa nn cc w, EntsAt w (.slice aa nn cc) ss.kept → Calls Try.prog 44 #[.agg #[.int .i64 ss.role, .int .i64 ss.step, .int .i64 ss.sent, .int .i64 ss.got, .int .i64 ss.prev, .int .i64 ss.skip, .int .i64 ss.cap, .string (str ss.root), .string (str ss.out), .string (str ss.inn), .int .i64 ss.secret, .int .i64 ss.peer, .slice aa nn cc], .agg #[.int .i64 l.step, .int .i64 l.count, .int .i64 l.prev, .int .i64 l.pub, .string (str l.head), .string (str l.body)], .int .i64 draw] w fun e w' => e = .returned (.tuple #[.string ⟨#[]⟩, .agg #[.int .i64 0, .int .i64 0, .int .i64 0, .int .i64 0, .int .i64 0, .int .i64 0, .int .i64 0, .string ⟨#[]⟩, .string ⟨#[]⟩, .string ⟨#[]⟩, .int .i64 0, .int .i64 0, .slice none 0 0], .int .i64 (recvR ss l draw.toNat).1]) ∧ Below w.heap.size w w' := by
    intro aa nn cc w hv
    refine (c4 aa nn cc w hv).mono ?_
    rintro e w' ⟨q, hb⟩
    rcases q with ⟨_, q⟩ | ⟨q, _⟩
    · exact ⟨q, hb⟩
    · exact absurd q hr
  have i1 : ((recvR ss l draw.toNat).1 == 0) = false := by rw [beq_eq_false_iff_ne]; exact hr
  generalize (recvR ss l draw.toNat).1 = er at *
  clear c4 hg gl gk h hs hl hr l1 l2 l3 l4 l5 l6 l7 l8
  go_enter Try.func26, Try.ntmps26
  go_upto_region 9 with (first | (go_at_call 37; (with_reducible refine (c1 _).mono ?_); rintro e w1 ⟨⟨aa, nn, cc, rfl, hown⟩, hb1⟩) | (go_at_call 42; (with_reducible refine (c2 _).mono ?_); rintro e w' ⟨rfl, hw⟩; rw [hw]; clear hw w') | (go_at_call 43; (with_reducible refine (c3 _).mono ?_); rintro e w2 ⟨rfl, hb2⟩))
  have hs1 := hb1.size; have hs2 := hb2.size
  have hlt1 : w1.heap.size < w2.heap.size := Nat.lt_of_lt_of_le (by simp) hs2
  have hA0 := heap_alloc_new w1 (.cells #[.int .i64 3, .string rp, .int .i64 lv, .int .i64 ss.role, .int .i64 ss.step, .int .i64 ss.sent, .int .i64 ss.got, .int .i64 ss.prev, .int .i64 ss.skip, .int .i64 ss.cap, .string (str ss.root), .string (str ss.out), .string (str ss.inn), .int .i64 ss.secret, .int .i64 ss.peer, .slice aa nn cc] 86)
  have hA : (w2.alloc (.cells #[.int .i64 l.step, .int .i64 l.count, .int .i64 l.prev, .int .i64 l.pub, .string (str l.head), .string (str l.body)] 96)).heap[w1.heap.size]? = some (.cells #[.int .i64 3, .string rp, .int .i64 lv, .int .i64 ss.role, .int .i64 ss.step, .int .i64 ss.sent, .int .i64 ss.got, .int .i64 ss.prev, .int .i64 ss.skip, .int .i64 ss.cap, .string (str ss.root), .string (str ss.out), .string (str ss.inn), .int .i64 ss.secret, .int .i64 ss.peer, .slice aa nn cc] 86) := (Below.heap_alloc _ _ _ hlt1).trans ((hb2.block w1.heap.size (by simp)).trans hA0)
  have hL := heap_alloc_new w2 (.cells #[.int .i64 l.step, .int .i64 l.count, .int .i64 l.prev, .int .i64 l.pub, .string (str l.head), .string (str l.body)] 96); have hE : EntsAt (w2.alloc (.cells #[.int .i64 l.step, .int .i64 l.count, .int .i64 l.prev, .int .i64 l.pub, .string (str l.head), .string (str l.body)] 96)) (.slice aa nn cc) ss.kept := ((EntsAt.of_own (hown.alloc _)).next hb2).next ((Below.refl _ _).alloc (Nat.le_refl _) _); have hW : Below w.heap.size w (w2.alloc (.cells #[.int .i64 l.step, .int .i64 l.count, .int .i64 l.prev, .int .i64 l.pub, .string (str l.head), .string (str l.body)] 96)) := below_tr (below_tr (hb1.alloc hb1.size _) hb2) ((Below.refl _ _).alloc (Nat.le_refl _) _)
  have hlt : w1.heap.size < (w2.alloc (.cells #[.int .i64 l.step, .int .i64 l.count, .int .i64 l.prev, .int .i64 l.pub, .string (str l.head), .string (str l.body)] 96)).heap.size := by simp; omega
  generalize (w2.alloc (.cells #[.int .i64 l.step, .int .i64 l.count, .int .i64 l.prev, .int .i64 l.pub, .string (str l.head), .string (str l.body)] 96)) = wb at hA hL hE hW hlt ⊢
  generalize w1.heap.size = B at hA hlt ⊢
  generalize w2.heap.size = C at hL ⊢
  obtain ⟨_, _, _, k3, k4, k5, k6, k7, k8, k9, k10, k11, k12, k13, k14, k15⟩ := cells16 hA; obtain ⟨q0, q1, q2, q3, q4, q5⟩ := cells6 hL; have HA := hid hA; have HE := hid hE; have HW := hid hW; clear hA hA0 hL hE hW hown hb1 hb2 c1 c3 hs1 hs2
  go_wp2_with (first | (go_at_call 44; (with_reducible refine (c5 _ _ _ _ HE.out).mono ?_); rintro e w3 ⟨rfl, hb3⟩))
  go_ret3
  refine ⟨rfl, ?_⟩
  have hb4 := below_tr HW.out hb3; exact hb4.alloc hb4.size _
theorem pawlRecv_ok (d t : ByteArray) (draw : Int) (w : World) (hd : d.size ≤ maxLen) (ht : t.size ≤ maxLen) (he : recvErr d.data.toList t.data.toList draw = 0) :
    Calls Try.prog 26 #[.string d, .string t, .int .i64 draw] w fun e w' => e = .returned (.tuple #[.string (str (recvTxt d.data.toList t.data.toList draw)), .string (str (recvPlan d.data.toList t.data.toList draw)), .int .i64 0]) ∧ Below w.heap.size w w' := by
  obtain ⟨h, hs, hl, hr⟩ := recvErr_ok he; obtain ⟨k, hg⟩ := open_good _ h; have hdl := len_list d
  have hk : d.size = k * 32 := by rw [← hdl]; exact hg.len
  have hk2 := hg.k2; have hlv := hg.live; obtain ⟨gl, gk⟩ := good_lawQ hg; have hkl := hg.kept; have hcap := hg.cap; have hneed := hg.need; have hsec := gl.sec.2; have hst := gl.step; obtain ⟨l1, l2, l3, l4, l5, l6, l7, l8⟩ := letOk_parts hl; have hdn := sec_nat hs; have hds := hs.2; have hd1 := hs.1
  have c1 : ∀ w, Calls Try.prog 37 #[.string d] w fun e w' => (∃ (a : Option Addr) (n c : Nat), e = .returned (.tuple #[.agg (stateCells 3 (repL d.data.toList) (liveL d.data.toList) (heldS d.data.toList) a n c), .int .i64 0]) ∧ w'.ownsRow w.heap.size 142 3 (.slice a n c) (heldS d.data.toList).kept.length (entsCells (heldS d.data.toList).kept)) ∧ Below w.heap.size w w' := by
    intro w
    refine (openDisk_any d w hd).mono ?_
    rintro e w' ⟨q, hb⟩
    rcases q with ⟨_, q⟩ | ⟨q, _⟩
    · exact ⟨q, hb⟩
    · exact absurd h q
  unfold stateCells at c1
  have c2 := fun w => devIsSecret_any draw w
  rw [decide_eq_true hs] at c2
  have c3 : ∀ w, Calls Try.prog 43 #[.string t] w fun e w' => e = .returned (.tuple #[.agg #[.int .i64 ((letOf t.data.toList).step : Int), .int .i64 ((letOf t.data.toList).count : Int), .int .i64 ((letOf t.data.toList).prev : Int), .int .i64 ((letOf t.data.toList).pub : Int), .string (str (letOf t.data.toList).head), .string (str (letOf t.data.toList).body)], .bool true]) ∧ Below w.heap.size w w' := by
    intro w
    refine (lettersRead_any t w ht).mono ?_
    rintro e w' ⟨⟨l, he, hq⟩, hb⟩
    rw [decide_eq_true hl, hq hl] at he
    exact ⟨he, hb⟩
  have c4 := fun aa nn cc w hv => talkReceive_any (heldS d.data.toList) aa nn cc (letOf t.data.toList) draw.toNat (fun _ => False) w (by omega) (by omega) (by omega) (by omega) (by omega) gk.inn gk.root (by omega) (by have := l5.2; omega) (by omega) hv (fun g o n c _ h => h) (fun g h => h.elim) (fun h0 => by
    obtain ⟨a, b, c, e, f⟩ := keyR_law gl gk (by omega) (letOf t.data.toList) draw.toNat l1 l2 l3 l4 l5 (by rw [hdn]; exact hs) h0
    exact ⟨c, by omega, f⟩) (by omega) l7 (by omega)
  rw [hdn] at c4
  obtain ⟨rl, rk, rc, rn⟩ := recv_law gl gk (by omega) (letOf t.data.toList) draw.toNat l1 l2 l3 l4 l5 (by rw [hdn]; exact hs) hr
  have hS : recvS d.data.toList t.data.toList draw = (recvR (heldS d.data.toList) (letOf t.data.toList) draw.toNat).2.2 := by rw [recvS]
  rw [recvTxt, if_pos he, recvPlan, if_pos he, hS, hdl, hk]; clear he hS
  generalize recvR (heldS d.data.toList) (letOf t.data.toList) draw.toNat = kr at *
  obtain ⟨k0, tx, s2⟩ := kr
  dsimp only at rl rk rc rn hr c4 ⊢
  have c6 := fun so rp ss aa nn cc a2 n2 c2 w hv => replace_any d k so rp (liveL d.data.toList) ss aa nn cc s2 a2 n2 c2 w hk hk2 hlv (stOk_of rl rk (by omega)) rn (by omega) (by rw [rc]; exact hneed) hv
  rw [rc] at c6
  have c5 : ∀ aa nn cc w, EntsAt w (.slice aa nn cc) (heldS d.data.toList).kept → Calls Try.prog 44 #[.agg (stCells (heldS d.data.toList) (.slice aa nn cc)), .agg #[.int .i64 ((letOf t.data.toList).step : Int), .int .i64 ((letOf t.data.toList).count : Int), .int .i64 ((letOf t.data.toList).prev : Int), .int .i64 ((letOf t.data.toList).pub : Int), .string (str (letOf t.data.toList).head), .string (str (letOf t.data.toList).body)], .int .i64 draw] w fun e w' => (∃ (a : Option Addr) (n c : Nat), e = .returned (.tuple #[.string (str tx), .agg (stCells s2 (.slice a n c)), .int .i64 0]) ∧ EntsAt w' (.slice a n c) s2.kept) ∧ Below w.heap.size w w' := by
    intro aa nn cc w hv
    refine (c4 aa nn cc w hv).mono ?_
    rintro e w' ⟨q, hb⟩
    rcases q with ⟨q, _⟩ | ⟨_, a, n, c, q1, q2, _⟩
    · exact absurd hr q
    · exact ⟨⟨a, n, c, q1, q2⟩, hb⟩
  unfold stCells at c5
  clear c4
  generalize str (repL d.data.toList) = rp at *
  generalize str (encL (rplR d.data.toList (packL s2 (1 - liveL d.data.toList) (k * 32)) (heldS d.data.toList).cap (liveL d.data.toList))) = pl at *
  have HK0 : Hid (s2.cap = (heldS d.data.toList).cap) := rc; clear hg gl gk h hs hl hr l1 l2 l3 l4 l5 l6 l7 l8 rl rk rc rn
  generalize heldS d.data.toList = ss at *
  generalize liveL d.data.toList = lv at *
  generalize letOf t.data.toList = l at *
  generalize str tx = sx at *
  have c6' : ∀ so rp (sx : StM) aa nn cc a2 n2 c2 w, EntsAt w (.slice a2 n2 c2) s2.kept → Calls Try.prog 39 #[.string d, .agg #[.int .i64 so, .string rp, .int .i64 lv, .int .i64 sx.role, .int .i64 sx.step, .int .i64 sx.sent, .int .i64 sx.got, .int .i64 sx.prev, .int .i64 sx.skip, .int .i64 sx.cap, .string (str sx.root), .string (str sx.out), .string (str sx.inn), .int .i64 sx.secret, .int .i64 sx.peer, .slice aa nn cc], .agg #[.int .i64 s2.role, .int .i64 s2.step, .int .i64 s2.sent, .int .i64 s2.got, .int .i64 s2.prev, .int .i64 s2.skip, .int .i64 s2.cap, .string (str s2.root), .string (str s2.out), .string (str s2.inn), .int .i64 s2.secret, .int .i64 s2.peer, .slice a2 n2 c2]] w fun e w' => e = .returned (.string pl) ∧ Below w.heap.size w w' := fun so rp sx aa nn cc a2 n2 c2 w hv => by rw [HK0.out]; exact c6 so rp sx aa nn cc a2 n2 c2 w hv
  clear c6 HK0
  go_enter Try.func26, Try.ntmps26
  go_upto_region 9 with (first | (go_at_call 37; (with_reducible refine (c1 _).mono ?_); rintro e w1 ⟨⟨aa, nn, cc, rfl, hown⟩, hb1⟩) | (go_at_call 42; (with_reducible refine (c2 _).mono ?_); rintro e w' ⟨rfl, hw⟩; rw [hw]; clear hw w') | (go_at_call 43; (with_reducible refine (c3 _).mono ?_); rintro e w2 ⟨rfl, hb2⟩))
  have hs1 := hb1.size; have hs2 := hb2.size
  have hlt1 : w1.heap.size < w2.heap.size := Nat.lt_of_lt_of_le (by simp) hs2
  have hA0 := heap_alloc_new w1 (.cells #[.int .i64 3, .string rp, .int .i64 lv, .int .i64 ss.role, .int .i64 ss.step, .int .i64 ss.sent, .int .i64 ss.got, .int .i64 ss.prev, .int .i64 ss.skip, .int .i64 ss.cap, .string (str ss.root), .string (str ss.out), .string (str ss.inn), .int .i64 ss.secret, .int .i64 ss.peer, .slice aa nn cc] 86)
  have hA : (w2.alloc (.cells #[.int .i64 l.step, .int .i64 l.count, .int .i64 l.prev, .int .i64 l.pub, .string (str l.head), .string (str l.body)] 96)).heap[w1.heap.size]? = some (.cells #[.int .i64 3, .string rp, .int .i64 lv, .int .i64 ss.role, .int .i64 ss.step, .int .i64 ss.sent, .int .i64 ss.got, .int .i64 ss.prev, .int .i64 ss.skip, .int .i64 ss.cap, .string (str ss.root), .string (str ss.out), .string (str ss.inn), .int .i64 ss.secret, .int .i64 ss.peer, .slice aa nn cc] 86) := (Below.heap_alloc _ _ _ hlt1).trans ((hb2.block w1.heap.size (by simp)).trans hA0)
  have hL := heap_alloc_new w2 (.cells #[.int .i64 l.step, .int .i64 l.count, .int .i64 l.prev, .int .i64 l.pub, .string (str l.head), .string (str l.body)] 96); have hE : EntsAt (w2.alloc (.cells #[.int .i64 l.step, .int .i64 l.count, .int .i64 l.prev, .int .i64 l.pub, .string (str l.head), .string (str l.body)] 96)) (.slice aa nn cc) ss.kept := ((EntsAt.of_own (hown.alloc _)).next hb2).next ((Below.refl _ _).alloc (Nat.le_refl _) _); have hW : Below w.heap.size w (w2.alloc (.cells #[.int .i64 l.step, .int .i64 l.count, .int .i64 l.prev, .int .i64 l.pub, .string (str l.head), .string (str l.body)] 96)) := below_tr (below_tr (hb1.alloc hb1.size _) hb2) ((Below.refl _ _).alloc (Nat.le_refl _) _)
  have hlt : w1.heap.size < (w2.alloc (.cells #[.int .i64 l.step, .int .i64 l.count, .int .i64 l.prev, .int .i64 l.pub, .string (str l.head), .string (str l.body)] 96)).heap.size := by simp; omega
  generalize (w2.alloc (.cells #[.int .i64 l.step, .int .i64 l.count, .int .i64 l.prev, .int .i64 l.pub, .string (str l.head), .string (str l.body)] 96)) = wb at hA hL hE hW hlt ⊢
  generalize w1.heap.size = B at hA hlt ⊢
  generalize w2.heap.size = C at hL ⊢
  obtain ⟨_, _, _, k3, k4, k5, k6, k7, k8, k9, k10, k11, k12, k13, k14, k15⟩ := cells16 hA; obtain ⟨q0, q1, q2, q3, q4, q5⟩ := cells6 hL; have HA := hid hA; have HE := hid hE; have HW := hid hW; clear hA hA0 hL hE hW hown hb1 hb2 c1 c3 hs1 hs2
  go_upto_region 12 with (first | (go_at_call 44; (with_reducible refine (c5 _ _ _ _ HE.out).mono ?_); rintro e w3 ⟨⟨a2, n2, c2', rfl, hE3⟩, hb3⟩))
  obtain ⟨c2, rfl⟩ : ∃ x, x = c2' := ⟨_, rfl⟩
  have hA2 : (w3.alloc (.cells #[.int .i64 s2.role, .int .i64 s2.step, .int .i64 s2.sent, .int .i64 s2.got, .int .i64 s2.prev, .int .i64 s2.skip, .int .i64 s2.cap, .string (str s2.root), .string (str s2.out), .string (str s2.inn), .int .i64 s2.secret, .int .i64 s2.peer, .slice a2 n2 c2] 84)).heap[B]? = some (.cells #[.int .i64 3, .string rp, .int .i64 lv, .int .i64 ss.role, .int .i64 ss.step, .int .i64 ss.sent, .int .i64 ss.got, .int .i64 ss.prev, .int .i64 ss.skip, .int .i64 ss.cap, .string (str ss.root), .string (str ss.out), .string (str ss.inn), .int .i64 ss.secret, .int .i64 ss.peer, .slice aa nn cc] 86) := (Below.heap_alloc _ _ _ (Nat.lt_of_lt_of_le hlt hb3.size)).trans ((hb3.block B hlt).trans HA.out); have hX2 := heap_alloc_new w3 (.cells #[.int .i64 s2.role, .int .i64 s2.step, .int .i64 s2.sent, .int .i64 s2.got, .int .i64 s2.prev, .int .i64 s2.skip, .int .i64 s2.cap, .string (str s2.root), .string (str s2.out), .string (str s2.inn), .int .i64 s2.secret, .int .i64 s2.peer, .slice a2 n2 c2] 84); have hE2 : EntsAt (w3.alloc (.cells #[.int .i64 s2.role, .int .i64 s2.step, .int .i64 s2.sent, .int .i64 s2.got, .int .i64 s2.prev, .int .i64 s2.skip, .int .i64 s2.cap, .string (str s2.root), .string (str s2.out), .string (str s2.inn), .int .i64 s2.secret, .int .i64 s2.peer, .slice a2 n2 c2] 84)) (.slice a2 n2 c2) s2.kept := hE3.next ((Below.refl _ _).alloc (Nat.le_refl _) _); have hW2 : Below w.heap.size w (w3.alloc (.cells #[.int .i64 s2.role, .int .i64 s2.step, .int .i64 s2.sent, .int .i64 s2.got, .int .i64 s2.prev, .int .i64 s2.skip, .int .i64 s2.cap, .string (str s2.root), .string (str s2.out), .string (str s2.inn), .int .i64 s2.secret, .int .i64 s2.peer, .slice a2 n2 c2] 84)) := below_tr (below_tr HW.out hb3) ((Below.refl _ _).alloc (Nat.le_refl _) _)
  generalize (w3.alloc (.cells #[.int .i64 s2.role, .int .i64 s2.step, .int .i64 s2.sent, .int .i64 s2.got, .int .i64 s2.prev, .int .i64 s2.skip, .int .i64 s2.cap, .string (str s2.root), .string (str s2.out), .string (str s2.inn), .int .i64 s2.secret, .int .i64 s2.peer, .slice a2 n2 c2] 84)) = wz at hA2 hX2 hE2 hW2 ⊢
  generalize w3.heap.size = B2 at hX2 ⊢
  clear k3 k4 k5 k6 k7 k8 k9 k10 k11 k12 k13 k14 k15 q0 q1 q2 q3 q4 q5 HA HE HW hb3 hE3; obtain ⟨x0, x1, x2, x3, x4, x5, x6, x7, x8, x9, x10, x11, x12, x13, x14, x15⟩ := cells16 hA2; obtain ⟨y0, y1, y2, y3, y4, y5, y6, y7, y8, y9, y10, y11, y12⟩ := cells13 hX2; have HW2 := hid hW2; clear hA2 hX2 hW2
  go_wp2_with (first | (go_at_call 39; (with_reducible refine (c6' _ _ _ _ _ _ _ _ _ _ hE2).mono ?_); rintro e w4 ⟨rfl, hb4⟩))
  go_ret3
  exact ⟨rfl, below_tr HW2.out hb4⟩
theorem pawlReceive_any (d t : ByteArray) (draw : Int) (w : World) (hd : d.size ≤ maxLen) (ht : t.size ≤ maxLen) :
    Calls Try.prog 26 #[.string d, .string t, .int .i64 draw] w fun e w' => e = .returned (.tuple #[.string (str (recvTxt d.data.toList t.data.toList draw)), .string (str (recvPlan d.data.toList t.data.toList draw)), .int .i64 (recvErr d.data.toList t.data.toList draw)]) ∧ Below w.heap.size w w' := by
  by_cases he : recvErr d.data.toList t.data.toList draw = 0
  · rw [he]; exact pawlRecv_ok d t draw w hd ht he
  · rw [recvTxt, if_neg he, recvPlan, if_neg he]
    rw [recvErr] at *
    by_cases h : openErr d.data.toList = 0
    · rw [if_pos h] at *
      by_cases hs : Sec draw
      · rw [if_pos hs] at *
        by_cases hl : letOk t.data.toList
        · rw [if_pos hl] at *
          exact pawlRecv_ref d t draw w hd ht h hs hl he
        · rw [if_neg hl] at *
          exact pawlRecv_frame d t draw w hd ht h hs hl
      · rw [if_neg hs] at *
        exact pawlRecv_sec d t draw w hd ht h hs
    · rw [if_neg h]; exact pawlRecv_bad d t draw w hd ht h
end Go.Proofs.Ytabpkohcimiceab
