import Derived.Test.YtabpkohcimiceabTakeA
namespace Go.Proofs.Ytabpkohcimiceab
set_option maxRecDepth 100000
set_option maxHeartbeats 1000000
open Go.RowKit
set_option linter.unusedVariables false
set_option linter.unusedSimpArgs false
def turnR (s : StM) (l : LetM) (draw : Nat) : Int × List UInt8 × StM := if 2 ≤ s.step ∧ skipBad s l.prev then (17, [], s) else dueR (turnS (endS s l.prev) l.step l.pub draw) l.count
theorem turning_one (s : StM) (aa : Option Addr) (nn cc : Nat) (l : LetM) (draw : Nat) (A : Nat → Prop) (w : World) (h255 : s.step ≤ 255) (hls : l.step ≤ 254) (hc : l.count ≤ 254) (hpv : l.prev ≤ 150) (hl : s.kept.length ≤ 100) (hin : s.inn.length = 8) (hroot : s.root.length = 8) (hs : s.secret < 2147483647) (hp : l.pub < 2147483647) (hd : draw < 2147483647) (hv : EntsAt w (.slice aa nn cc) s.kept) (ho : Off A (.slice aa nn cc)) (hA : ∀ g, A g → g < w.heap.size) (h2 : ¬ 2 ≤ s.step) :
    Calls Try.prog 88 #[.agg #[.int .i64 s.role, .int .i64 s.step, .int .i64 s.sent, .int .i64 s.got, .int .i64 s.prev, .int .i64 s.skip, .int .i64 s.cap, .string (str s.root), .string (str s.out), .string (str s.inn), .int .i64 s.secret, .int .i64 s.peer, .slice aa nn cc], .agg #[.int .i64 l.step, .int .i64 l.count, .int .i64 l.prev, .int .i64 l.pub, .string (str l.head), .string (str l.body)], .int .i64 draw] w fun e w' => TakeOut (turnR s l draw) A w' e ∧ Below w.heap.size w w' := by
  have HA : Hid (∀ g, A g → g < w.heap.size) := hA
  have HQ : Hid (turnR s l draw = dueR (turnS s l.step l.pub draw) l.count) := by
    show _ = _
    rw [turnR, if_neg (fun q => h2 q.1), endS, if_neg h2]
  have hI : ¬ (2 : Int) ≤ (s.step : Int) := by omega
  have hrootx := hroot; have hsx := hs
  go_enter Try.func88, Try.ntmps88
  go_upto_region 1 with fail
  obtain ⟨wb, ewb, hB, hL, hR, hW, hlt⟩ := alloc3e w (.cells #[.int .i64 s.role, .int .i64 s.step, .int .i64 s.sent, .int .i64 s.got, .int .i64 s.prev, .int .i64 s.skip, .int .i64 s.cap, .string (str s.root), .string (str s.out), .string (str s.inn), .int .i64 s.secret, .int .i64 s.peer, .slice aa nn cc] 84) (.cells #[.int .i64 l.step, .int .i64 l.count, .int .i64 l.prev, .int .i64 l.pub, .string (str l.head), .string (str l.body)] 96) (.cells #[.int .i64 0, .int .i64 0, .int .i64 0, .int .i64 0, .int .i64 0, .int .i64 0, .int .i64 0, .string ⟨#[]⟩, .string ⟨#[]⟩, .string ⟨#[]⟩, .int .i64 0, .int .i64 0, .slice none 0 0] 84); rw [← ewb]; clear ewb; have HB := hid hB; have HL := hid hL; have HR := hid hR; have HW := hid hW; have HEx : Hid (EntsAt wb (.slice aa nn cc) s.kept) := hv.next hW; have HOx : Hid (Off (With A w.heap.size (w.heap.size + 1 + 1 + 1)) (.slice aa nn cc)) := ho.with hv _; clear hB hL hR hW hv ho hA
  have ct := fun w => talkTurn_any s aa nn cc l draw w hrootx hsx hp hd hls
  have HTS : Hid ((turnS s l.step l.pub draw).step = l.step + 1 ∧ (turnS s l.step l.pub draw).kept = s.kept ∧ (turnS s l.step l.pub draw).inn.length = 8) := ⟨rfl, rfl, mixed_length _ _⟩
  unfold stCells at ct
  generalize turnS s l.step l.pub draw = t at *
  obtain ⟨k0, k1, k2, k3, k4, k5, k6, k7, k8, k9, k10, k11, k12⟩ := cells13 HB.out; obtain ⟨q0, q1, q2, q3, q4, q5⟩ := cells6 HL.out
  go_upto_region 7 with (first | (go_at_call 98; (with_reducible refine (ct _).mono ?_); rintro e w4 ⟨rfl, hb4⟩))
  have hsz4 := hb4.size
  obtain ⟨ob, eob⟩ : ∃ ob, ob = Obj.cells #[.int .i64 t.role, .int .i64 t.step, .int .i64 t.sent, .int .i64 t.got, .int .i64 t.prev, .int .i64 t.skip, .int .i64 t.cap, .string (str t.root), .string (str t.out), .string (str t.inn), .int .i64 t.secret, .int .i64 t.peer, .slice aa nn cc] 84 := ⟨_, rfl⟩
  rw [← eob]; have hT4 := heap_alloc_new w4 ob
  have hL4 : (w4.alloc ob).heap[w.heap.size + 1]? = some (.cells #[.int .i64 l.step, .int .i64 l.count, .int .i64 l.prev, .int .i64 l.pub, .string (str l.head), .string (str l.body)] 96) := (Below.heap_alloc _ _ _ (by omega)).trans ((hb4.block (w.heap.size + 1) (by omega)).trans HL.out)
  have hR4 : (w4.alloc ob).heap[w.heap.size + 1 + 1]? = some (.cells #[.int .i64 0, .int .i64 0, .int .i64 0, .int .i64 0, .int .i64 0, .int .i64 0, .int .i64 0, .string ⟨#[]⟩, .string ⟨#[]⟩, .string ⟨#[]⟩, .int .i64 0, .int .i64 0, .slice none 0 0] 84) := (Below.heap_alloc _ _ _ (by omega)).trans ((hb4.block (w.heap.size + 1 + 1) (by omega)).trans HR.out)
  have hE4 : EntsAt (w4.alloc ob) (.slice aa nn cc) s.kept := (HEx.out.next hb4).next ((Below.refl _ _).alloc (Nat.le_refl _) _); have hW4 : Below w.heap.size w (w4.alloc ob) := below_tr (below_tr HW.out hb4) ((Below.refl _ _).alloc (Nat.le_refl _) _)
  have hlt4 : w.heap.size + 1 + 1 < (w4.alloc ob).heap.size := by simp; omega
  generalize (w4.alloc ob) = wt at hT4 hL4 hR4 hE4 hW4 hlt4 ⊢
  subst eob
  generalize w4.heap.size = B4 at hT4 ⊢
  have cd : ∀ w0, EntsAt w0 (.slice aa nn cc) s.kept ∧ w0 = wt → Calls Try.prog 89 #[.agg #[.int .i64 t.role, .int .i64 t.step, .int .i64 t.sent, .int .i64 t.got, .int .i64 t.prev, .int .i64 t.skip, .int .i64 t.cap, .string (str t.root), .string (str t.out), .string (str t.inn), .int .i64 t.secret, .int .i64 t.peer, .slice aa nn cc], .agg #[.int .i64 l.step, .int .i64 l.count, .int .i64 l.prev, .int .i64 l.pub, .string (str l.head), .string (str l.body)]] w0 fun e w' => TakeOut (dueR t l.count) (With A w.heap.size (w.heap.size + 1 + 1 + 1)) w' e ∧ Below w0.heap.size w0 w' := by
    rintro w0 ⟨hE0, hw0⟩
    obtain ⟨hts, htk, hti⟩ := HTS.out
    rw [hw0] at hE0 ⊢
    exact dueT_any t aa nn cc l (With A w.heap.size (w.heap.size + 1 + 1 + 1)) wt (by omega) (by omega) hc (by rw [htk]; omega) hti (by rw [htk]; exact hE0) (HOx.out) (fun g hg => by rcases hg with hg | hg; (have := HA.out g hg; omega); omega)
  have HE : Hid (EntsAt wt (.slice aa nn cc) s.kept ∧ wt = wt) := ⟨hE4, rfl⟩; clear k0 k1 k2 k3 k4 k5 k6 k7 k8 k9 k10 k11 k12 q0 q1 q2 q3 q4 q5 hb4 hsz4 ct; obtain ⟨k0, k1, k2, k3, k4, k5, k6, k7, k8, k9, k10, k11, k12⟩ := cells13 hT4; obtain ⟨q0, q1, q2, q3, q4, q5⟩ := cells6 hL4; have HR4 := hid hR4; have HW4 := hid hW4; clear hT4 hL4 hR4 hE4 hW4 HTS
  by_cases hr0 : (dueR t l.count).1 = 0
  · have cO : ∀ w0, EntsAt w0 (.slice aa nn cc) s.kept ∧ w0 = wt → Calls Try.prog 89 #[.agg #[.int .i64 t.role, .int .i64 t.step, .int .i64 t.sent, .int .i64 t.got, .int .i64 t.prev, .int .i64 t.skip, .int .i64 t.cap, .string (str t.root), .string (str t.out), .string (str t.inn), .int .i64 t.secret, .int .i64 t.peer, .slice aa nn cc], .agg #[.int .i64 l.step, .int .i64 l.count, .int .i64 l.prev, .int .i64 l.pub, .string (str l.head), .string (str l.body)]] w0 fun e w' => (∃ (a : Option Addr) (n c : Nat), e = .returned (.tuple #[.string (str (dueR t l.count).2.1), .agg (stCells (dueR t l.count).2.2 (.slice a n c)), .int .i64 0]) ∧ EntsAt w' (.slice a n c) (dueR t l.count).2.2.kept ∧ Off (With A w.heap.size (w.heap.size + 1 + 1 + 1)) (.slice a n c)) ∧ Below w0.heap.size w0 w' := by
      intro w0 hE
      refine (cd w0 hE).mono ?_
      rintro e w' ⟨q, hw⟩
      rcases q with ⟨q, _⟩ | ⟨_, q⟩
      · exact absurd hr0 q
      · exact ⟨q, hw⟩
    have HR0 : Hid ((dueR t l.count).1 = 0) := hr0
    obtain ⟨q, hq2⟩ : ∃ q, q = (dueR t l.count).2.2 := ⟨_, rfl⟩
    obtain ⟨ky, hky⟩ : ∃ ky, ky = str (dueR t l.count).2.1 := ⟨_, rfl⟩
    unfold stCells at cO
    rw [← hq2, ← hky] at cO
    have HQ2 : Hid (q = (dueR t l.count).2.2) := hq2; have HKY : Hid (ky = str (dueR t l.count).2.1) := hky; clear cd hr0 hq2 hky
    go_wp2_with (first | (go_at_call 89; (with_reducible refine (cO _ HE.out).mono ?_); rintro e w5 ⟨⟨a, n, c, rfl, hE5, hO5⟩, hb5⟩; have HE5 := hid hE5; have HO5 := hid hO5; clear hE5 hO5; have hR5 := (hb5.block (w.heap.size + 1 + 1) hlt4).trans HR4.out; have hlt2 : w.heap.size + 1 + 1 < w5.heap.size := Nat.lt_of_lt_of_le hlt4 hb5.size; have HW5 : Hid (Below w.heap.size w w5) := below_tr HW4.out hb5; obtain ⟨a0, a1, a2, a3, a4, a5, a6, a7, a8, a9, a10, a11, a12⟩ := cells13 hR5; have fA : ∀ j, w5.frozen? ⟨w.heap.size + 1 + 1, j, none⟩ = false := fun j => frozen_of_row w5 _ j _ _ hR5; clear hR5 hb5))
    (try simp only [Exit.inBlock, Exit.then])
    refine bodyPost_ret (v := .tuple #[.string ky, .agg #[.int .i64 q.role, .int .i64 q.step, .int .i64 q.sent, .int .i64 q.got, .int .i64 q.prev, .int .i64 q.skip, .int .i64 q.cap, .string (str q.root), .string (str q.out), .string (str q.inn), .int .i64 q.secret, .int .i64 q.peer, .slice a n c], .int .i64 0]) ?_ ?_ ?_
    · rw [results_tct (fn := Try.f88) rfl]; simp [go_sem, a0, a1, a2, a3, a4, a5, a6, a7, a8, a9, a10, a11, a12]
    · rfl
    · refine ⟨?_, ?_⟩
      · rw [HQ.out]
        refine .inr ⟨HR0.out, a, n, c, by rw [← HQ2.out, ← HKY.out]; rfl, ?_, HO5.out.mono (fun g hg => .inl hg)⟩
        rw [← HQ2.out]
        have hOR : Off (fun g => g = w.heap.size + 1 + 1) (.slice a n c) := HO5.out.mono (fun g hg => by right; omega)
        repeat (with_reducible refine EntsAt.put ?_ hOR _ _)
        exact HE5.out
      · repeat (with_reducible refine Below.setCell ?_ (by show w.heap.size ≤ w.heap.size + 1 + 1; omega) _)
        exact HW5.out
  · have cE : ∀ w0, EntsAt w0 (.slice aa nn cc) s.kept ∧ w0 = wt → Calls Try.prog 89 #[.agg #[.int .i64 t.role, .int .i64 t.step, .int .i64 t.sent, .int .i64 t.got, .int .i64 t.prev, .int .i64 t.skip, .int .i64 t.cap, .string (str t.root), .string (str t.out), .string (str t.inn), .int .i64 t.secret, .int .i64 t.peer, .slice aa nn cc], .agg #[.int .i64 l.step, .int .i64 l.count, .int .i64 l.prev, .int .i64 l.pub, .string (str l.head), .string (str l.body)]] w0 fun e w' => e = .returned (.tuple #[.string ⟨#[]⟩, .agg #[.int .i64 0, .int .i64 0, .int .i64 0, .int .i64 0, .int .i64 0, .int .i64 0, .int .i64 0, .string ⟨#[]⟩, .string ⟨#[]⟩, .string ⟨#[]⟩, .int .i64 0, .int .i64 0, .slice none 0 0], .int .i64 (dueR t l.count).1]) ∧ Below w0.heap.size w0 w' := by
      intro w0 hE
      refine (cd w0 hE).mono ?_
      rintro e w' ⟨q, hw⟩
      rcases q with ⟨_, q⟩ | ⟨q, _⟩
      · exact ⟨q, hw⟩
      · exact absurd q hr0
    have HR0 : Hid ((dueR t l.count).1 ≠ 0) := hr0; clear cd hr0
    obtain ⟨er, her⟩ : ∃ er, er = (dueR t l.count).1 := ⟨_, rfl⟩
    rw [← her] at cE
    have HER : Hid (er = (dueR t l.count).1) := her; clear her
    go_wp2_with (first | (go_at_call 89; (with_reducible refine (cE _ HE.out).mono ?_); rintro e w5 ⟨rfl, hb5⟩; have hR5 := (hb5.block (w.heap.size + 1 + 1) hlt4).trans HR4.out; have hlt2 : w.heap.size + 1 + 1 < w5.heap.size := Nat.lt_of_lt_of_le hlt4 hb5.size; have HW5 : Hid (Below w.heap.size w w5) := below_tr HW4.out hb5; obtain ⟨a0, a1, a2, a3, a4, a5, a6, a7, a8, a9, a10, a11, a12⟩ := cells13 hR5; have fA : ∀ j, w5.frozen? ⟨w.heap.size + 1 + 1, j, none⟩ = false := fun j => frozen_of_row w5 _ j _ _ hR5; clear hR5 hb5))
    (try simp only [Exit.inBlock, Exit.then])
    refine bodyPost_ret (v := .tuple #[.string ⟨#[]⟩, .agg #[.int .i64 0, .int .i64 0, .int .i64 0, .int .i64 0, .int .i64 0, .int .i64 0, .int .i64 0, .string ⟨#[]⟩, .string ⟨#[]⟩, .string ⟨#[]⟩, .int .i64 0, .int .i64 0, .slice none 0 0], .int .i64 er]) ?_ ?_ ?_
    · rw [results_tct (fn := Try.f88) rfl]; simp [go_sem, a0, a1, a2, a3, a4, a5, a6, a7, a8, a9, a10, a11, a12]
    · rfl
    · refine ⟨?_, ?_⟩
      · rw [HQ.out]
        exact .inl ⟨HR0.out, by rw [HER.out]⟩
      · repeat (with_reducible refine Below.setCell ?_ (by show w.heap.size ≤ w.heap.size + 1 + 1; omega) _)
        exact HW5.out
theorem turning_bad (s : StM) (aa : Option Addr) (nn cc : Nat) (l : LetM) (draw : Nat) (A : Nat → Prop) (w : World) (h255 : s.step ≤ 255) (hls : l.step ≤ 254) (hc : l.count ≤ 254) (hpv : l.prev ≤ 150) (hl : s.kept.length ≤ 100) (hin : s.inn.length = 8) (hroot : s.root.length = 8) (hs : s.secret < 2147483647) (hp : l.pub < 2147483647) (hd : draw < 2147483647) (hv : EntsAt w (.slice aa nn cc) s.kept) (ho : Off A (.slice aa nn cc)) (hA : ∀ g, A g → g < w.heap.size) (h2 : 2 ≤ s.step) (hb : skipBad s l.prev) :
    Calls Try.prog 88 #[.agg #[.int .i64 s.role, .int .i64 s.step, .int .i64 s.sent, .int .i64 s.got, .int .i64 s.prev, .int .i64 s.skip, .int .i64 s.cap, .string (str s.root), .string (str s.out), .string (str s.inn), .int .i64 s.secret, .int .i64 s.peer, .slice aa nn cc], .agg #[.int .i64 l.step, .int .i64 l.count, .int .i64 l.prev, .int .i64 l.pub, .string (str l.head), .string (str l.body)], .int .i64 draw] w fun e w' => TakeOut (turnR s l draw) A w' e ∧ Below w.heap.size w w' := by
  have HQ : Hid (turnR s l draw = (17, [], s)) := by
    show _ = _
    rw [turnR, if_pos ⟨h2, hb⟩]
  have hI : (2 : Int) ≤ (s.step : Int) := by omega
  go_enter Try.func88, Try.ntmps88
  go_upto_region 1 with fail
  obtain ⟨wb, ewb, hB, hL, hR, hW, hlt⟩ := alloc3e w (.cells #[.int .i64 s.role, .int .i64 s.step, .int .i64 s.sent, .int .i64 s.got, .int .i64 s.prev, .int .i64 s.skip, .int .i64 s.cap, .string (str s.root), .string (str s.out), .string (str s.inn), .int .i64 s.secret, .int .i64 s.peer, .slice aa nn cc] 84) (.cells #[.int .i64 l.step, .int .i64 l.count, .int .i64 l.prev, .int .i64 l.pub, .string (str l.head), .string (str l.body)] 96) (.cells #[.int .i64 0, .int .i64 0, .int .i64 0, .int .i64 0, .int .i64 0, .int .i64 0, .int .i64 0, .string ⟨#[]⟩, .string ⟨#[]⟩, .string ⟨#[]⟩, .int .i64 0, .int .i64 0, .slice none 0 0] 84); rw [← ewb]; clear ewb; have HB := hid hB; have HL := hid hL; have HR := hid hR; have HW := hid hW
  have c1 := pass_any s aa nn cc l.prev (fun _ => False) wb (by omega) h255 (by omega) (by omega) hin (hv.next hW) (fun g o n c _ h => h) (fun g h => h.elim)
  have c2 : Calls Try.prog 97 #[.agg #[.int .i64 s.role, .int .i64 s.step, .int .i64 s.sent, .int .i64 s.got, .int .i64 s.prev, .int .i64 s.skip, .int .i64 s.cap, .string (str s.root), .string (str s.out), .string (str s.inn), .int .i64 s.secret, .int .i64 s.peer, .slice aa nn cc], .int .i64 l.prev] wb fun e w' => e = .returned (.tuple #[.agg #[.int .i64 0, .int .i64 0, .int .i64 0, .int .i64 0, .int .i64 0, .int .i64 0, .int .i64 0, .string ⟨#[]⟩, .string ⟨#[]⟩, .string ⟨#[]⟩, .int .i64 0, .int .i64 0, .slice none 0 0], .bool false]) ∧ Below wb.heap.size wb w' := by
    refine c1.mono ?_
    rintro e w' ⟨q, hw⟩
    rcases q with ⟨_, q⟩ | ⟨q, _⟩
    · exact ⟨q, hw⟩
    · exact absurd hb q
  obtain ⟨k0, k1, k2, k3, k4, k5, k6, k7, k8, k9, k10, k11, k12⟩ := cells13 hB; have q2 : wb.cell? ⟨w.heap.size + 1, 2, none⟩ = some (.int .i64 l.prev) := cell_of_row wb _ 2 _ _ _ hL; clear hB hL hR hW hv ho hA c1 hb
  go_upto_region 4 with (first | (go_at_call 97; (with_reducible refine c2.mono ?_); rintro e w2 ⟨rfl, hb2⟩))
  have hR2 := (hb2.block (w.heap.size + 1 + 1) (by omega)).trans HR.out
  have HW2 : Hid (Below w.heap.size w w2) := below_tr HW.out hb2; have hsz2 := hb2.size; obtain ⟨a0, a1, a2, a3, a4, a5, a6, a7, a8, a9, a10, a11, a12⟩ := cells13 hR2
  have fA : ∀ j, w2.frozen? ⟨w.heap.size + 1 + 1, j, none⟩ = false := fun j => frozen_of_row w2 _ j _ _ hR2
  have hlt2 : w.heap.size + 1 + 1 < w2.heap.size := by omega
  clear hR2 hb2 c2 k0 k1 k2 k3 k4 k5 k6 k7 k8 k9 k10 k11 k12; go_wp2
  (try simp only [Exit.inBlock, Exit.then])
  refine bodyPost_ret (v := .tuple #[.string ⟨#[]⟩, .agg #[.int .i64 0, .int .i64 0, .int .i64 0, .int .i64 0, .int .i64 0, .int .i64 0, .int .i64 0, .string ⟨#[]⟩, .string ⟨#[]⟩, .string ⟨#[]⟩, .int .i64 0, .int .i64 0, .slice none 0 0], .int .i64 17]) ?_ ?_ ?_
  · rw [results_tct (fn := Try.f88) rfl]; simp [go_sem, hlt2, a0, a1, a2, a3, a4, a5, a6, a7, a8, a9, a10, a11, a12]
  · rfl
  · refine ⟨by rw [HQ.out]; exact .inl ⟨by simp, rfl⟩, ?_⟩
    have hw := HW2.out
    repeat (first | (with_reducible refine Below.setCell ?_ (by show w.heap.size ≤ w.heap.size + 1 + 1; omega) _) | (with_reducible refine Below.alloc ?_ (by simp; omega) _))
    exact hw
theorem turning_two (s : StM) (aa : Option Addr) (nn cc : Nat) (l : LetM) (draw : Nat) (A : Nat → Prop) (w : World) (h255 : s.step ≤ 255) (hls : l.step ≤ 254) (hc : l.count ≤ 254) (hpv : l.prev ≤ 150) (hl : s.kept.length ≤ 100) (hin : s.inn.length = 8) (hroot : s.root.length = 8) (hs : s.secret < 2147483647) (hp : l.pub < 2147483647) (hd : draw < 2147483647) (hv : EntsAt w (.slice aa nn cc) s.kept) (ho : Off A (.slice aa nn cc)) (hA : ∀ g, A g → g < w.heap.size) (h2 : 2 ≤ s.step) (hb : ¬ skipBad s l.prev) :
    Calls Try.prog 88 #[.agg #[.int .i64 s.role, .int .i64 s.step, .int .i64 s.sent, .int .i64 s.got, .int .i64 s.prev, .int .i64 s.skip, .int .i64 s.cap, .string (str s.root), .string (str s.out), .string (str s.inn), .int .i64 s.secret, .int .i64 s.peer, .slice aa nn cc], .agg #[.int .i64 l.step, .int .i64 l.count, .int .i64 l.prev, .int .i64 l.pub, .string (str l.head), .string (str l.body)], .int .i64 draw] w fun e w' => TakeOut (turnR s l draw) A w' e ∧ Below w.heap.size w w' := by
  have HA : Hid (∀ g, A g → g < w.heap.size) := hA
  have HQ0 : Hid (turnR s l draw = dueR (turnS (passS s l.prev) l.step l.pub draw) l.count) := by
    show _ = _
    rw [turnR, if_neg (fun q => hb q.2), endS, if_pos h2]
  have hI : (2 : Int) ≤ (s.step : Int) := by omega
  go_enter Try.func88, Try.ntmps88
  go_upto_region 1 with fail
  obtain ⟨wb, ewb, hB, hL, hR, hW, hlt⟩ := alloc3e w (.cells #[.int .i64 s.role, .int .i64 s.step, .int .i64 s.sent, .int .i64 s.got, .int .i64 s.prev, .int .i64 s.skip, .int .i64 s.cap, .string (str s.root), .string (str s.out), .string (str s.inn), .int .i64 s.secret, .int .i64 s.peer, .slice aa nn cc] 84) (.cells #[.int .i64 l.step, .int .i64 l.count, .int .i64 l.prev, .int .i64 l.pub, .string (str l.head), .string (str l.body)] 96) (.cells #[.int .i64 0, .int .i64 0, .int .i64 0, .int .i64 0, .int .i64 0, .int .i64 0, .int .i64 0, .string ⟨#[]⟩, .string ⟨#[]⟩, .string ⟨#[]⟩, .int .i64 0, .int .i64 0, .slice none 0 0] 84); rw [← ewb]; clear ewb; have HB := hid hB; have HL := hid hL; have HR := hid hR; have HW := hid hW
  have c1 := pass_any s aa nn cc l.prev (With A w.heap.size (w.heap.size + 1 + 1 + 1)) wb (by omega) h255 (by omega) (by omega) hin (hv.next hW) (ho.with hv _) (fun g hg => by rcases hg with hg | hg; (have := HA.out g hg; omega); omega)
  have c2 : Calls Try.prog 97 #[.agg #[.int .i64 s.role, .int .i64 s.step, .int .i64 s.sent, .int .i64 s.got, .int .i64 s.prev, .int .i64 s.skip, .int .i64 s.cap, .string (str s.root), .string (str s.out), .string (str s.inn), .int .i64 s.secret, .int .i64 s.peer, .slice aa nn cc], .int .i64 l.prev] wb fun e w' => (∃ (a : Option Addr) (n c : Nat), e = .returned (.tuple #[.agg (stCells (passS s l.prev) (.slice a n c)), .bool true]) ∧ EntsAt w' (.slice a n c) (passS s l.prev).kept ∧ Off (With A w.heap.size (w.heap.size + 1 + 1 + 1)) (.slice a n c)) ∧ Below wb.heap.size wb w' := by
    refine c1.mono ?_
    rintro e w' ⟨q, hw⟩
    rcases q with ⟨q, _⟩ | ⟨_, q⟩
    · exact absurd q hb
    · exact ⟨q, hw⟩
  have hrootx : (passS s l.prev).root.length = 8 := hroot; have hsx : (passS s l.prev).secret < 2147483647 := hs
  have hlx : (passS s l.prev).kept.length ≤ 250 := by
    show (s.kept ++ spanL _ _ _ _).length ≤ 250
    rw [List.length_append, spanL_length]; omega
  unfold stCells at c2
  generalize passS s l.prev = p at *
  obtain ⟨k0, k1, k2, k3, k4, k5, k6, k7, k8, k9, k10, k11, k12⟩ := cells13 hB; have q2 : wb.cell? ⟨w.heap.size + 1, 2, none⟩ = some (.int .i64 l.prev) := cell_of_row wb _ 2 _ _ _ hL; clear hB hL hR hW hv ho hA c1 hb
  go_upto_region 5 with (first | (go_at_call 97; (with_reducible refine c2.mono ?_); rintro e w2 ⟨⟨a2, n2, c2', rfl, he2, ho2⟩, hb2⟩))
  obtain ⟨c2, rfl⟩ : ∃ x, x = c2' := ⟨_, rfl⟩
  have hsz2 := hb2.size
  obtain ⟨ob, eob⟩ : ∃ ob, ob = Obj.cells #[.int .i64 p.role, .int .i64 p.step, .int .i64 p.sent, .int .i64 p.got, .int .i64 p.prev, .int .i64 p.skip, .int .i64 p.cap, .string (str p.root), .string (str p.out), .string (str p.inn), .int .i64 p.secret, .int .i64 p.peer, .slice a2 n2 c2] 84 := ⟨_, rfl⟩
  rw [← eob]; have hP := heap_alloc_new w2 ob
  have HBp0 : (w2.alloc ob).heap[w.heap.size]? = some (.cells #[.int .i64 s.role, .int .i64 s.step, .int .i64 s.sent, .int .i64 s.got, .int .i64 s.prev, .int .i64 s.skip, .int .i64 s.cap, .string (str s.root), .string (str s.out), .string (str s.inn), .int .i64 s.secret, .int .i64 s.peer, .slice aa nn cc] 84) := (Below.heap_alloc _ _ _ (by omega)).trans ((hb2.block w.heap.size (by omega)).trans HB.out)
  have HLp0 : (w2.alloc ob).heap[w.heap.size + 1]? = some (.cells #[.int .i64 l.step, .int .i64 l.count, .int .i64 l.prev, .int .i64 l.pub, .string (str l.head), .string (str l.body)] 96) := (Below.heap_alloc _ _ _ (by omega)).trans ((hb2.block (w.heap.size + 1) (by omega)).trans HL.out)
  have HRp0 : (w2.alloc ob).heap[w.heap.size + 1 + 1]? = some (.cells #[.int .i64 0, .int .i64 0, .int .i64 0, .int .i64 0, .int .i64 0, .int .i64 0, .int .i64 0, .string ⟨#[]⟩, .string ⟨#[]⟩, .string ⟨#[]⟩, .int .i64 0, .int .i64 0, .slice none 0 0] 84) := (Below.heap_alloc _ _ _ (by omega)).trans ((hb2.block (w.heap.size + 1 + 1) (by omega)).trans HR.out)
  have HEp0 : EntsAt (w2.alloc ob) (.slice a2 n2 c2) p.kept := he2.next ((Below.refl _ _).alloc (Nat.le_refl _) _); have HWp0 : Below w.heap.size w (w2.alloc ob) := below_tr (below_tr HW.out hb2) ((Below.refl _ _).alloc (Nat.le_refl _) _)
  have hltp : w.heap.size + 1 + 1 + 1 < (w2.alloc ob).heap.size := by simp; omega
  have hPB : w.heap.size < w2.heap.size := by omega
  have HOx := hid ho2
  have HOB : Hid (Off (fun g => g = w.heap.size) (.slice a2 n2 c2)) := ho2.mono (fun g hg => by right; omega)
  generalize (w2.alloc ob) = wp at hP HBp0 HLp0 HRp0 HEp0 HWp0 hltp ⊢
  subst eob
  generalize w2.heap.size = PB at hP hPB ⊢
  have HBp := hid HBp0; have HLp := hid HLp0; have HRp := hid HRp0; have HEp := hid HEp0; have HWp := hid HWp0; clear k0 k1 k2 k3 k4 k5 k6 k7 k8 k9 k10 k11 k12 q2; obtain ⟨k0, k1, k2, k3, k4, k5, k6, k7, k8, k9, k10, k11, k12⟩ := cells13 hP; obtain ⟨z0, z1, z2, z3, z4, z5, z6, z7, z8, z9, z10, z11, z12⟩ := cells13 HBp0
  have fB : ∀ j, wp.frozen? ⟨w.heap.size, j, none⟩ = false := fun j => frozen_of_row wp _ j _ _ HBp0
  clear hP HBp0 HLp0 HRp0 HEp0 HWp0 hb2 he2 ho2 HB HL HR HW hsz2
  go_upto_region 6 with fail
  clear k0 k1 k2 k3 k4 k5 k6 k7 k8 k9 k10 k11 k12 z0 z1 z2 z3 z4 z5 z6 z7 z8 z9 z10 z11 z12 fB; have hX0 : (wp.setCell ⟨w.heap.size, 0, none⟩ (.int .i64 p.role)).heap[w.heap.size]? = some (.cells #[.int .i64 p.role, .int .i64 s.step, .int .i64 s.sent, .int .i64 s.got, .int .i64 s.prev, .int .i64 s.skip, .int .i64 s.cap, .string (str s.root), .string (str s.out), .string (str s.inn), .int .i64 s.secret, .int .i64 s.peer, .slice aa nn cc] 84) := heap_setCell_same _ _ _ _ _ _ HBp.out
  have hL0 := (heap_setCell_other wp ⟨w.heap.size, 0, none⟩ (w.heap.size + 1) (.int .i64 p.role) (by show w.heap.size + 1 ≠ w.heap.size; omega)).trans HLp.out
  have hR0 := (heap_setCell_other wp ⟨w.heap.size, 0, none⟩ (w.heap.size + 1 + 1) (.int .i64 p.role) (by show w.heap.size + 1 + 1 ≠ w.heap.size; omega)).trans HRp.out
  have hE0 : EntsAt (wp.setCell ⟨w.heap.size, 0, none⟩ (.int .i64 p.role)) (.slice a2 n2 c2) p.kept := EntsAt.put HEp.out HOB.out _ _
  have hZ0 : Below w.heap.size w (wp.setCell ⟨w.heap.size, 0, none⟩ (.int .i64 p.role)) := Below.setCell HWp.out (by exact Nat.le_refl _) _
  have hS0 : (wp.setCell ⟨w.heap.size, 0, none⟩ (.int .i64 p.role)).heap.size = wp.heap.size := World.size_setCell _ _ _
  generalize (wp.setCell ⟨w.heap.size, 0, none⟩ (.int .i64 p.role)) = s0 at hX0 hL0 hR0 hE0 hZ0 hS0 ⊢
  have hX1 : (s0.setCell ⟨w.heap.size, 1, none⟩ (.int .i64 p.step)).heap[w.heap.size]? = some (.cells #[.int .i64 p.role, .int .i64 p.step, .int .i64 s.sent, .int .i64 s.got, .int .i64 s.prev, .int .i64 s.skip, .int .i64 s.cap, .string (str s.root), .string (str s.out), .string (str s.inn), .int .i64 s.secret, .int .i64 s.peer, .slice aa nn cc] 84) := heap_setCell_same _ _ _ _ _ _ hX0
  have hL1 := (heap_setCell_other s0 ⟨w.heap.size, 1, none⟩ (w.heap.size + 1) (.int .i64 p.step) (by show w.heap.size + 1 ≠ w.heap.size; omega)).trans hL0
  have hR1 := (heap_setCell_other s0 ⟨w.heap.size, 1, none⟩ (w.heap.size + 1 + 1) (.int .i64 p.step) (by show w.heap.size + 1 + 1 ≠ w.heap.size; omega)).trans hR0
  have hE1 : EntsAt (s0.setCell ⟨w.heap.size, 1, none⟩ (.int .i64 p.step)) (.slice a2 n2 c2) p.kept := EntsAt.put hE0 HOB.out _ _
  have hZ1 : Below w.heap.size w (s0.setCell ⟨w.heap.size, 1, none⟩ (.int .i64 p.step)) := Below.setCell hZ0 (by exact Nat.le_refl _) _
  have hS1 : (s0.setCell ⟨w.heap.size, 1, none⟩ (.int .i64 p.step)).heap.size = s0.heap.size := World.size_setCell _ _ _
  generalize (s0.setCell ⟨w.heap.size, 1, none⟩ (.int .i64 p.step)) = s1 at hX1 hL1 hR1 hE1 hZ1 hS1 ⊢
  have hX2 : (s1.setCell ⟨w.heap.size, 2, none⟩ (.int .i64 p.sent)).heap[w.heap.size]? = some (.cells #[.int .i64 p.role, .int .i64 p.step, .int .i64 p.sent, .int .i64 s.got, .int .i64 s.prev, .int .i64 s.skip, .int .i64 s.cap, .string (str s.root), .string (str s.out), .string (str s.inn), .int .i64 s.secret, .int .i64 s.peer, .slice aa nn cc] 84) := heap_setCell_same _ _ _ _ _ _ hX1
  have hL2 := (heap_setCell_other s1 ⟨w.heap.size, 2, none⟩ (w.heap.size + 1) (.int .i64 p.sent) (by show w.heap.size + 1 ≠ w.heap.size; omega)).trans hL1
  have hR2 := (heap_setCell_other s1 ⟨w.heap.size, 2, none⟩ (w.heap.size + 1 + 1) (.int .i64 p.sent) (by show w.heap.size + 1 + 1 ≠ w.heap.size; omega)).trans hR1
  have hE2 : EntsAt (s1.setCell ⟨w.heap.size, 2, none⟩ (.int .i64 p.sent)) (.slice a2 n2 c2) p.kept := EntsAt.put hE1 HOB.out _ _
  have hZ2 : Below w.heap.size w (s1.setCell ⟨w.heap.size, 2, none⟩ (.int .i64 p.sent)) := Below.setCell hZ1 (by exact Nat.le_refl _) _
  have hS2 : (s1.setCell ⟨w.heap.size, 2, none⟩ (.int .i64 p.sent)).heap.size = s1.heap.size := World.size_setCell _ _ _
  generalize (s1.setCell ⟨w.heap.size, 2, none⟩ (.int .i64 p.sent)) = s2 at hX2 hL2 hR2 hE2 hZ2 hS2 ⊢
  have hX3 : (s2.setCell ⟨w.heap.size, 3, none⟩ (.int .i64 p.got)).heap[w.heap.size]? = some (.cells #[.int .i64 p.role, .int .i64 p.step, .int .i64 p.sent, .int .i64 p.got, .int .i64 s.prev, .int .i64 s.skip, .int .i64 s.cap, .string (str s.root), .string (str s.out), .string (str s.inn), .int .i64 s.secret, .int .i64 s.peer, .slice aa nn cc] 84) := heap_setCell_same _ _ _ _ _ _ hX2
  have hL3 := (heap_setCell_other s2 ⟨w.heap.size, 3, none⟩ (w.heap.size + 1) (.int .i64 p.got) (by show w.heap.size + 1 ≠ w.heap.size; omega)).trans hL2
  have hR3 := (heap_setCell_other s2 ⟨w.heap.size, 3, none⟩ (w.heap.size + 1 + 1) (.int .i64 p.got) (by show w.heap.size + 1 + 1 ≠ w.heap.size; omega)).trans hR2
  have hE3 : EntsAt (s2.setCell ⟨w.heap.size, 3, none⟩ (.int .i64 p.got)) (.slice a2 n2 c2) p.kept := EntsAt.put hE2 HOB.out _ _
  have hZ3 : Below w.heap.size w (s2.setCell ⟨w.heap.size, 3, none⟩ (.int .i64 p.got)) := Below.setCell hZ2 (by exact Nat.le_refl _) _
  have hS3 : (s2.setCell ⟨w.heap.size, 3, none⟩ (.int .i64 p.got)).heap.size = s2.heap.size := World.size_setCell _ _ _
  generalize (s2.setCell ⟨w.heap.size, 3, none⟩ (.int .i64 p.got)) = s3 at hX3 hL3 hR3 hE3 hZ3 hS3 ⊢
  have hX4 : (s3.setCell ⟨w.heap.size, 4, none⟩ (.int .i64 p.prev)).heap[w.heap.size]? = some (.cells #[.int .i64 p.role, .int .i64 p.step, .int .i64 p.sent, .int .i64 p.got, .int .i64 p.prev, .int .i64 s.skip, .int .i64 s.cap, .string (str s.root), .string (str s.out), .string (str s.inn), .int .i64 s.secret, .int .i64 s.peer, .slice aa nn cc] 84) := heap_setCell_same _ _ _ _ _ _ hX3
  have hL4 := (heap_setCell_other s3 ⟨w.heap.size, 4, none⟩ (w.heap.size + 1) (.int .i64 p.prev) (by show w.heap.size + 1 ≠ w.heap.size; omega)).trans hL3
  have hR4 := (heap_setCell_other s3 ⟨w.heap.size, 4, none⟩ (w.heap.size + 1 + 1) (.int .i64 p.prev) (by show w.heap.size + 1 + 1 ≠ w.heap.size; omega)).trans hR3
  have hE4 : EntsAt (s3.setCell ⟨w.heap.size, 4, none⟩ (.int .i64 p.prev)) (.slice a2 n2 c2) p.kept := EntsAt.put hE3 HOB.out _ _
  have hZ4 : Below w.heap.size w (s3.setCell ⟨w.heap.size, 4, none⟩ (.int .i64 p.prev)) := Below.setCell hZ3 (by exact Nat.le_refl _) _
  have hS4 : (s3.setCell ⟨w.heap.size, 4, none⟩ (.int .i64 p.prev)).heap.size = s3.heap.size := World.size_setCell _ _ _
  generalize (s3.setCell ⟨w.heap.size, 4, none⟩ (.int .i64 p.prev)) = s4 at hX4 hL4 hR4 hE4 hZ4 hS4 ⊢
  have hX5 : (s4.setCell ⟨w.heap.size, 5, none⟩ (.int .i64 p.skip)).heap[w.heap.size]? = some (.cells #[.int .i64 p.role, .int .i64 p.step, .int .i64 p.sent, .int .i64 p.got, .int .i64 p.prev, .int .i64 p.skip, .int .i64 s.cap, .string (str s.root), .string (str s.out), .string (str s.inn), .int .i64 s.secret, .int .i64 s.peer, .slice aa nn cc] 84) := heap_setCell_same _ _ _ _ _ _ hX4
  have hL5 := (heap_setCell_other s4 ⟨w.heap.size, 5, none⟩ (w.heap.size + 1) (.int .i64 p.skip) (by show w.heap.size + 1 ≠ w.heap.size; omega)).trans hL4
  have hR5 := (heap_setCell_other s4 ⟨w.heap.size, 5, none⟩ (w.heap.size + 1 + 1) (.int .i64 p.skip) (by show w.heap.size + 1 + 1 ≠ w.heap.size; omega)).trans hR4
  have hE5 : EntsAt (s4.setCell ⟨w.heap.size, 5, none⟩ (.int .i64 p.skip)) (.slice a2 n2 c2) p.kept := EntsAt.put hE4 HOB.out _ _
  have hZ5 : Below w.heap.size w (s4.setCell ⟨w.heap.size, 5, none⟩ (.int .i64 p.skip)) := Below.setCell hZ4 (by exact Nat.le_refl _) _
  have hS5 : (s4.setCell ⟨w.heap.size, 5, none⟩ (.int .i64 p.skip)).heap.size = s4.heap.size := World.size_setCell _ _ _
  generalize (s4.setCell ⟨w.heap.size, 5, none⟩ (.int .i64 p.skip)) = s5 at hX5 hL5 hR5 hE5 hZ5 hS5 ⊢
  have hX6 : (s5.setCell ⟨w.heap.size, 6, none⟩ (.int .i64 p.cap)).heap[w.heap.size]? = some (.cells #[.int .i64 p.role, .int .i64 p.step, .int .i64 p.sent, .int .i64 p.got, .int .i64 p.prev, .int .i64 p.skip, .int .i64 p.cap, .string (str s.root), .string (str s.out), .string (str s.inn), .int .i64 s.secret, .int .i64 s.peer, .slice aa nn cc] 84) := heap_setCell_same _ _ _ _ _ _ hX5
  have hL6 := (heap_setCell_other s5 ⟨w.heap.size, 6, none⟩ (w.heap.size + 1) (.int .i64 p.cap) (by show w.heap.size + 1 ≠ w.heap.size; omega)).trans hL5
  have hR6 := (heap_setCell_other s5 ⟨w.heap.size, 6, none⟩ (w.heap.size + 1 + 1) (.int .i64 p.cap) (by show w.heap.size + 1 + 1 ≠ w.heap.size; omega)).trans hR5
  have hE6 : EntsAt (s5.setCell ⟨w.heap.size, 6, none⟩ (.int .i64 p.cap)) (.slice a2 n2 c2) p.kept := EntsAt.put hE5 HOB.out _ _
  have hZ6 : Below w.heap.size w (s5.setCell ⟨w.heap.size, 6, none⟩ (.int .i64 p.cap)) := Below.setCell hZ5 (by exact Nat.le_refl _) _
  have hS6 : (s5.setCell ⟨w.heap.size, 6, none⟩ (.int .i64 p.cap)).heap.size = s5.heap.size := World.size_setCell _ _ _
  generalize (s5.setCell ⟨w.heap.size, 6, none⟩ (.int .i64 p.cap)) = s6 at hX6 hL6 hR6 hE6 hZ6 hS6 ⊢
  have hX7 : (s6.setCell ⟨w.heap.size, 7, none⟩ (.string (str p.root))).heap[w.heap.size]? = some (.cells #[.int .i64 p.role, .int .i64 p.step, .int .i64 p.sent, .int .i64 p.got, .int .i64 p.prev, .int .i64 p.skip, .int .i64 p.cap, .string (str p.root), .string (str s.out), .string (str s.inn), .int .i64 s.secret, .int .i64 s.peer, .slice aa nn cc] 84) := heap_setCell_same _ _ _ _ _ _ hX6
  have hL7 := (heap_setCell_other s6 ⟨w.heap.size, 7, none⟩ (w.heap.size + 1) (.string (str p.root)) (by show w.heap.size + 1 ≠ w.heap.size; omega)).trans hL6
  have hR7 := (heap_setCell_other s6 ⟨w.heap.size, 7, none⟩ (w.heap.size + 1 + 1) (.string (str p.root)) (by show w.heap.size + 1 + 1 ≠ w.heap.size; omega)).trans hR6
  have hE7 : EntsAt (s6.setCell ⟨w.heap.size, 7, none⟩ (.string (str p.root))) (.slice a2 n2 c2) p.kept := EntsAt.put hE6 HOB.out _ _
  have hZ7 : Below w.heap.size w (s6.setCell ⟨w.heap.size, 7, none⟩ (.string (str p.root))) := Below.setCell hZ6 (by exact Nat.le_refl _) _
  have hS7 : (s6.setCell ⟨w.heap.size, 7, none⟩ (.string (str p.root))).heap.size = s6.heap.size := World.size_setCell _ _ _
  generalize (s6.setCell ⟨w.heap.size, 7, none⟩ (.string (str p.root))) = s7 at hX7 hL7 hR7 hE7 hZ7 hS7 ⊢
  have hX8 : (s7.setCell ⟨w.heap.size, 8, none⟩ (.string (str p.out))).heap[w.heap.size]? = some (.cells #[.int .i64 p.role, .int .i64 p.step, .int .i64 p.sent, .int .i64 p.got, .int .i64 p.prev, .int .i64 p.skip, .int .i64 p.cap, .string (str p.root), .string (str p.out), .string (str s.inn), .int .i64 s.secret, .int .i64 s.peer, .slice aa nn cc] 84) := heap_setCell_same _ _ _ _ _ _ hX7
  have hL8 := (heap_setCell_other s7 ⟨w.heap.size, 8, none⟩ (w.heap.size + 1) (.string (str p.out)) (by show w.heap.size + 1 ≠ w.heap.size; omega)).trans hL7
  have hR8 := (heap_setCell_other s7 ⟨w.heap.size, 8, none⟩ (w.heap.size + 1 + 1) (.string (str p.out)) (by show w.heap.size + 1 + 1 ≠ w.heap.size; omega)).trans hR7
  have hE8 : EntsAt (s7.setCell ⟨w.heap.size, 8, none⟩ (.string (str p.out))) (.slice a2 n2 c2) p.kept := EntsAt.put hE7 HOB.out _ _
  have hZ8 : Below w.heap.size w (s7.setCell ⟨w.heap.size, 8, none⟩ (.string (str p.out))) := Below.setCell hZ7 (by exact Nat.le_refl _) _
  have hS8 : (s7.setCell ⟨w.heap.size, 8, none⟩ (.string (str p.out))).heap.size = s7.heap.size := World.size_setCell _ _ _
  generalize (s7.setCell ⟨w.heap.size, 8, none⟩ (.string (str p.out))) = s8 at hX8 hL8 hR8 hE8 hZ8 hS8 ⊢
  have hX9 : (s8.setCell ⟨w.heap.size, 9, none⟩ (.string (str p.inn))).heap[w.heap.size]? = some (.cells #[.int .i64 p.role, .int .i64 p.step, .int .i64 p.sent, .int .i64 p.got, .int .i64 p.prev, .int .i64 p.skip, .int .i64 p.cap, .string (str p.root), .string (str p.out), .string (str p.inn), .int .i64 s.secret, .int .i64 s.peer, .slice aa nn cc] 84) := heap_setCell_same _ _ _ _ _ _ hX8
  have hL9 := (heap_setCell_other s8 ⟨w.heap.size, 9, none⟩ (w.heap.size + 1) (.string (str p.inn)) (by show w.heap.size + 1 ≠ w.heap.size; omega)).trans hL8
  have hR9 := (heap_setCell_other s8 ⟨w.heap.size, 9, none⟩ (w.heap.size + 1 + 1) (.string (str p.inn)) (by show w.heap.size + 1 + 1 ≠ w.heap.size; omega)).trans hR8
  have hE9 : EntsAt (s8.setCell ⟨w.heap.size, 9, none⟩ (.string (str p.inn))) (.slice a2 n2 c2) p.kept := EntsAt.put hE8 HOB.out _ _
  have hZ9 : Below w.heap.size w (s8.setCell ⟨w.heap.size, 9, none⟩ (.string (str p.inn))) := Below.setCell hZ8 (by exact Nat.le_refl _) _
  have hS9 : (s8.setCell ⟨w.heap.size, 9, none⟩ (.string (str p.inn))).heap.size = s8.heap.size := World.size_setCell _ _ _
  generalize (s8.setCell ⟨w.heap.size, 9, none⟩ (.string (str p.inn))) = s9 at hX9 hL9 hR9 hE9 hZ9 hS9 ⊢
  have hX10 : (s9.setCell ⟨w.heap.size, 10, none⟩ (.int .i64 p.secret)).heap[w.heap.size]? = some (.cells #[.int .i64 p.role, .int .i64 p.step, .int .i64 p.sent, .int .i64 p.got, .int .i64 p.prev, .int .i64 p.skip, .int .i64 p.cap, .string (str p.root), .string (str p.out), .string (str p.inn), .int .i64 p.secret, .int .i64 s.peer, .slice aa nn cc] 84) := heap_setCell_same _ _ _ _ _ _ hX9
  have hL10 := (heap_setCell_other s9 ⟨w.heap.size, 10, none⟩ (w.heap.size + 1) (.int .i64 p.secret) (by show w.heap.size + 1 ≠ w.heap.size; omega)).trans hL9
  have hR10 := (heap_setCell_other s9 ⟨w.heap.size, 10, none⟩ (w.heap.size + 1 + 1) (.int .i64 p.secret) (by show w.heap.size + 1 + 1 ≠ w.heap.size; omega)).trans hR9
  have hE10 : EntsAt (s9.setCell ⟨w.heap.size, 10, none⟩ (.int .i64 p.secret)) (.slice a2 n2 c2) p.kept := EntsAt.put hE9 HOB.out _ _
  have hZ10 : Below w.heap.size w (s9.setCell ⟨w.heap.size, 10, none⟩ (.int .i64 p.secret)) := Below.setCell hZ9 (by exact Nat.le_refl _) _
  have hS10 : (s9.setCell ⟨w.heap.size, 10, none⟩ (.int .i64 p.secret)).heap.size = s9.heap.size := World.size_setCell _ _ _
  generalize (s9.setCell ⟨w.heap.size, 10, none⟩ (.int .i64 p.secret)) = s10 at hX10 hL10 hR10 hE10 hZ10 hS10 ⊢
  have hX11 : (s10.setCell ⟨w.heap.size, 11, none⟩ (.int .i64 p.peer)).heap[w.heap.size]? = some (.cells #[.int .i64 p.role, .int .i64 p.step, .int .i64 p.sent, .int .i64 p.got, .int .i64 p.prev, .int .i64 p.skip, .int .i64 p.cap, .string (str p.root), .string (str p.out), .string (str p.inn), .int .i64 p.secret, .int .i64 p.peer, .slice aa nn cc] 84) := heap_setCell_same _ _ _ _ _ _ hX10
  have hL11 := (heap_setCell_other s10 ⟨w.heap.size, 11, none⟩ (w.heap.size + 1) (.int .i64 p.peer) (by show w.heap.size + 1 ≠ w.heap.size; omega)).trans hL10
  have hR11 := (heap_setCell_other s10 ⟨w.heap.size, 11, none⟩ (w.heap.size + 1 + 1) (.int .i64 p.peer) (by show w.heap.size + 1 + 1 ≠ w.heap.size; omega)).trans hR10
  have hE11 : EntsAt (s10.setCell ⟨w.heap.size, 11, none⟩ (.int .i64 p.peer)) (.slice a2 n2 c2) p.kept := EntsAt.put hE10 HOB.out _ _
  have hZ11 : Below w.heap.size w (s10.setCell ⟨w.heap.size, 11, none⟩ (.int .i64 p.peer)) := Below.setCell hZ10 (by exact Nat.le_refl _) _
  have hS11 : (s10.setCell ⟨w.heap.size, 11, none⟩ (.int .i64 p.peer)).heap.size = s10.heap.size := World.size_setCell _ _ _
  generalize (s10.setCell ⟨w.heap.size, 11, none⟩ (.int .i64 p.peer)) = s11 at hX11 hL11 hR11 hE11 hZ11 hS11 ⊢
  have hX12 : (s11.setCell ⟨w.heap.size, 12, none⟩ (.slice a2 n2 c2)).heap[w.heap.size]? = some (.cells #[.int .i64 p.role, .int .i64 p.step, .int .i64 p.sent, .int .i64 p.got, .int .i64 p.prev, .int .i64 p.skip, .int .i64 p.cap, .string (str p.root), .string (str p.out), .string (str p.inn), .int .i64 p.secret, .int .i64 p.peer, .slice a2 n2 c2] 84) := heap_setCell_same _ _ _ _ _ _ hX11
  have hL12 := (heap_setCell_other s11 ⟨w.heap.size, 12, none⟩ (w.heap.size + 1) (.slice a2 n2 c2) (by show w.heap.size + 1 ≠ w.heap.size; omega)).trans hL11
  have hR12 := (heap_setCell_other s11 ⟨w.heap.size, 12, none⟩ (w.heap.size + 1 + 1) (.slice a2 n2 c2) (by show w.heap.size + 1 + 1 ≠ w.heap.size; omega)).trans hR11
  have hE12 : EntsAt (s11.setCell ⟨w.heap.size, 12, none⟩ (.slice a2 n2 c2)) (.slice a2 n2 c2) p.kept := EntsAt.put hE11 HOB.out _ _
  have hZ12 : Below w.heap.size w (s11.setCell ⟨w.heap.size, 12, none⟩ (.slice a2 n2 c2)) := Below.setCell hZ11 (by exact Nat.le_refl _) _
  have hS12 : (s11.setCell ⟨w.heap.size, 12, none⟩ (.slice a2 n2 c2)).heap.size = s11.heap.size := World.size_setCell _ _ _
  generalize (s11.setCell ⟨w.heap.size, 12, none⟩ (.slice a2 n2 c2)) = wy at hX12 hL12 hR12 hE12 hZ12 hS12 ⊢
  have hlty : w.heap.size + 1 + 1 < wy.heap.size := by omega
  have HBy := hid hX12; have HLy := hid hL12; have HRy := hid hR12; have HEx := hid hE12; have HWy := hid hZ12; clear hX0 hL0 hR0 hE0 hZ0 hS0 hX1 hL1 hR1 hE1 hZ1 hS1 hX2 hL2 hR2 hE2 hZ2 hS2 hX3 hL3 hR3 hE3 hZ3 hS3 hX4 hL4 hR4 hE4 hZ4 hS4 hX5 hL5 hR5 hE5 hZ5 hS5 hX6 hL6 hR6 hE6 hZ6 hS6 hX7 hL7 hR7 hE7 hZ7 hS7 hX8 hL8 hR8 hE8 hZ8 hS8 hX9 hL9 hR9 hE9 hZ9 hS9 hX10 hL10 hR10 hE10 hZ10 hS10 hX11 hL11 hR11 hE11 hZ11 hS11 hX12 hL12 hR12 hE12 hZ12 hS12 HBp HLp HRp HEp HWp; have hl : p.kept.length ≤ 250 := hlx; have HQ : Hid (turnR s l draw = dueR (turnS p l.step l.pub draw) l.count) := HQ0.out; clear HQ0
  have ct := fun w => talkTurn_any p a2 n2 c2 l draw w hrootx hsx hp hd hls
  have HTS : Hid ((turnS p l.step l.pub draw).step = l.step + 1 ∧ (turnS p l.step l.pub draw).kept = p.kept ∧ (turnS p l.step l.pub draw).inn.length = 8) := ⟨rfl, rfl, mixed_length _ _⟩
  unfold stCells at ct
  generalize turnS p l.step l.pub draw = t at *
  obtain ⟨k0, k1, k2, k3, k4, k5, k6, k7, k8, k9, k10, k11, k12⟩ := cells13 HBy.out; obtain ⟨q0, q1, q2, q3, q4, q5⟩ := cells6 HLy.out
  go_upto_region 7 with (first | (go_at_call 98; (with_reducible refine (ct _).mono ?_); rintro e w4 ⟨rfl, hb4⟩))
  have hsz4 := hb4.size
  obtain ⟨ob, eob⟩ : ∃ ob, ob = Obj.cells #[.int .i64 t.role, .int .i64 t.step, .int .i64 t.sent, .int .i64 t.got, .int .i64 t.prev, .int .i64 t.skip, .int .i64 t.cap, .string (str t.root), .string (str t.out), .string (str t.inn), .int .i64 t.secret, .int .i64 t.peer, .slice a2 n2 c2] 84 := ⟨_, rfl⟩
  rw [← eob]; have hT4 := heap_alloc_new w4 ob
  have hL4 : (w4.alloc ob).heap[w.heap.size + 1]? = some (.cells #[.int .i64 l.step, .int .i64 l.count, .int .i64 l.prev, .int .i64 l.pub, .string (str l.head), .string (str l.body)] 96) := (Below.heap_alloc _ _ _ (by omega)).trans ((hb4.block (w.heap.size + 1) (by omega)).trans HLy.out)
  have hR4 : (w4.alloc ob).heap[w.heap.size + 1 + 1]? = some (.cells #[.int .i64 0, .int .i64 0, .int .i64 0, .int .i64 0, .int .i64 0, .int .i64 0, .int .i64 0, .string ⟨#[]⟩, .string ⟨#[]⟩, .string ⟨#[]⟩, .int .i64 0, .int .i64 0, .slice none 0 0] 84) := (Below.heap_alloc _ _ _ (by omega)).trans ((hb4.block (w.heap.size + 1 + 1) (by omega)).trans HRy.out)
  have hE4 : EntsAt (w4.alloc ob) (.slice a2 n2 c2) p.kept := (HEx.out.next hb4).next ((Below.refl _ _).alloc (Nat.le_refl _) _); have hW4 : Below w.heap.size w (w4.alloc ob) := below_tr (below_tr HWy.out hb4) ((Below.refl _ _).alloc (Nat.le_refl _) _)
  have hlt4 : w.heap.size + 1 + 1 < (w4.alloc ob).heap.size := by simp; omega
  generalize (w4.alloc ob) = wt at hT4 hL4 hR4 hE4 hW4 hlt4 ⊢
  subst eob
  generalize w4.heap.size = B4 at hT4 ⊢
  have cd : ∀ w0, EntsAt w0 (.slice a2 n2 c2) p.kept ∧ w0 = wt → Calls Try.prog 89 #[.agg #[.int .i64 t.role, .int .i64 t.step, .int .i64 t.sent, .int .i64 t.got, .int .i64 t.prev, .int .i64 t.skip, .int .i64 t.cap, .string (str t.root), .string (str t.out), .string (str t.inn), .int .i64 t.secret, .int .i64 t.peer, .slice a2 n2 c2], .agg #[.int .i64 l.step, .int .i64 l.count, .int .i64 l.prev, .int .i64 l.pub, .string (str l.head), .string (str l.body)]] w0 fun e w' => TakeOut (dueR t l.count) (With A w.heap.size (w.heap.size + 1 + 1 + 1)) w' e ∧ Below w0.heap.size w0 w' := by
    rintro w0 ⟨hE0, hw0⟩
    obtain ⟨hts, htk, hti⟩ := HTS.out
    rw [hw0] at hE0 ⊢
    exact dueT_any t a2 n2 c2 l (With A w.heap.size (w.heap.size + 1 + 1 + 1)) wt (by omega) (by omega) hc (by rw [htk]; omega) hti (by rw [htk]; exact hE0) (HOx.out) (fun g hg => by rcases hg with hg | hg; (have := HA.out g hg; omega); omega)
  have HE : Hid (EntsAt wt (.slice a2 n2 c2) p.kept ∧ wt = wt) := ⟨hE4, rfl⟩; clear k0 k1 k2 k3 k4 k5 k6 k7 k8 k9 k10 k11 k12 q0 q1 q2 q3 q4 q5 hb4 hsz4 ct; obtain ⟨k0, k1, k2, k3, k4, k5, k6, k7, k8, k9, k10, k11, k12⟩ := cells13 hT4; obtain ⟨q0, q1, q2, q3, q4, q5⟩ := cells6 hL4; have HR4 := hid hR4; have HW4 := hid hW4; clear hT4 hL4 hR4 hE4 hW4 HTS
  by_cases hr0 : (dueR t l.count).1 = 0
  · have cO : ∀ w0, EntsAt w0 (.slice a2 n2 c2) p.kept ∧ w0 = wt → Calls Try.prog 89 #[.agg #[.int .i64 t.role, .int .i64 t.step, .int .i64 t.sent, .int .i64 t.got, .int .i64 t.prev, .int .i64 t.skip, .int .i64 t.cap, .string (str t.root), .string (str t.out), .string (str t.inn), .int .i64 t.secret, .int .i64 t.peer, .slice a2 n2 c2], .agg #[.int .i64 l.step, .int .i64 l.count, .int .i64 l.prev, .int .i64 l.pub, .string (str l.head), .string (str l.body)]] w0 fun e w' => (∃ (a : Option Addr) (n c : Nat), e = .returned (.tuple #[.string (str (dueR t l.count).2.1), .agg (stCells (dueR t l.count).2.2 (.slice a n c)), .int .i64 0]) ∧ EntsAt w' (.slice a n c) (dueR t l.count).2.2.kept ∧ Off (With A w.heap.size (w.heap.size + 1 + 1 + 1)) (.slice a n c)) ∧ Below w0.heap.size w0 w' := by
      intro w0 hE
      refine (cd w0 hE).mono ?_
      rintro e w' ⟨q, hw⟩
      rcases q with ⟨q, _⟩ | ⟨_, q⟩
      · exact absurd hr0 q
      · exact ⟨q, hw⟩
    have HR0 : Hid ((dueR t l.count).1 = 0) := hr0
    obtain ⟨q, hq2⟩ : ∃ q, q = (dueR t l.count).2.2 := ⟨_, rfl⟩
    obtain ⟨ky, hky⟩ : ∃ ky, ky = str (dueR t l.count).2.1 := ⟨_, rfl⟩
    unfold stCells at cO
    rw [← hq2, ← hky] at cO
    have HQ2 : Hid (q = (dueR t l.count).2.2) := hq2; have HKY : Hid (ky = str (dueR t l.count).2.1) := hky; clear cd hr0 hq2 hky
    go_wp2_with (first | (go_at_call 89; (with_reducible refine (cO _ HE.out).mono ?_); rintro e w5 ⟨⟨a, n, c, rfl, hE5, hO5⟩, hb5⟩; have HE5 := hid hE5; have HO5 := hid hO5; clear hE5 hO5; have hR5 := (hb5.block (w.heap.size + 1 + 1) hlt4).trans HR4.out; have hlt2 : w.heap.size + 1 + 1 < w5.heap.size := Nat.lt_of_lt_of_le hlt4 hb5.size; have HW5 : Hid (Below w.heap.size w w5) := below_tr HW4.out hb5; obtain ⟨a0, a1, a2, a3, a4, a5, a6, a7, a8, a9, a10, a11, a12⟩ := cells13 hR5; have fA : ∀ j, w5.frozen? ⟨w.heap.size + 1 + 1, j, none⟩ = false := fun j => frozen_of_row w5 _ j _ _ hR5; clear hR5 hb5))
    (try simp only [Exit.inBlock, Exit.then])
    refine bodyPost_ret (v := .tuple #[.string ky, .agg #[.int .i64 q.role, .int .i64 q.step, .int .i64 q.sent, .int .i64 q.got, .int .i64 q.prev, .int .i64 q.skip, .int .i64 q.cap, .string (str q.root), .string (str q.out), .string (str q.inn), .int .i64 q.secret, .int .i64 q.peer, .slice a n c], .int .i64 0]) ?_ ?_ ?_
    · rw [results_tct (fn := Try.f88) rfl]; simp [go_sem, a0, a1, a2, a3, a4, a5, a6, a7, a8, a9, a10, a11, a12]
    · rfl
    · refine ⟨?_, ?_⟩
      · rw [HQ.out]
        refine .inr ⟨HR0.out, a, n, c, by rw [← HQ2.out, ← HKY.out]; rfl, ?_, HO5.out.mono (fun g hg => .inl hg)⟩
        rw [← HQ2.out]
        have hOR : Off (fun g => g = w.heap.size + 1 + 1) (.slice a n c) := HO5.out.mono (fun g hg => by right; omega)
        repeat (with_reducible refine EntsAt.put ?_ hOR _ _)
        exact HE5.out
      · repeat (with_reducible refine Below.setCell ?_ (by show w.heap.size ≤ w.heap.size + 1 + 1; omega) _)
        exact HW5.out
  · have cE : ∀ w0, EntsAt w0 (.slice a2 n2 c2) p.kept ∧ w0 = wt → Calls Try.prog 89 #[.agg #[.int .i64 t.role, .int .i64 t.step, .int .i64 t.sent, .int .i64 t.got, .int .i64 t.prev, .int .i64 t.skip, .int .i64 t.cap, .string (str t.root), .string (str t.out), .string (str t.inn), .int .i64 t.secret, .int .i64 t.peer, .slice a2 n2 c2], .agg #[.int .i64 l.step, .int .i64 l.count, .int .i64 l.prev, .int .i64 l.pub, .string (str l.head), .string (str l.body)]] w0 fun e w' => e = .returned (.tuple #[.string ⟨#[]⟩, .agg #[.int .i64 0, .int .i64 0, .int .i64 0, .int .i64 0, .int .i64 0, .int .i64 0, .int .i64 0, .string ⟨#[]⟩, .string ⟨#[]⟩, .string ⟨#[]⟩, .int .i64 0, .int .i64 0, .slice none 0 0], .int .i64 (dueR t l.count).1]) ∧ Below w0.heap.size w0 w' := by
      intro w0 hE
      refine (cd w0 hE).mono ?_
      rintro e w' ⟨q, hw⟩
      rcases q with ⟨_, q⟩ | ⟨q, _⟩
      · exact ⟨q, hw⟩
      · exact absurd q hr0
    have HR0 : Hid ((dueR t l.count).1 ≠ 0) := hr0; clear cd hr0
    obtain ⟨er, her⟩ : ∃ er, er = (dueR t l.count).1 := ⟨_, rfl⟩
    rw [← her] at cE
    have HER : Hid (er = (dueR t l.count).1) := her; clear her
    go_wp2_with (first | (go_at_call 89; (with_reducible refine (cE _ HE.out).mono ?_); rintro e w5 ⟨rfl, hb5⟩; have hR5 := (hb5.block (w.heap.size + 1 + 1) hlt4).trans HR4.out; have hlt2 : w.heap.size + 1 + 1 < w5.heap.size := Nat.lt_of_lt_of_le hlt4 hb5.size; have HW5 : Hid (Below w.heap.size w w5) := below_tr HW4.out hb5; obtain ⟨a0, a1, a2, a3, a4, a5, a6, a7, a8, a9, a10, a11, a12⟩ := cells13 hR5; have fA : ∀ j, w5.frozen? ⟨w.heap.size + 1 + 1, j, none⟩ = false := fun j => frozen_of_row w5 _ j _ _ hR5; clear hR5 hb5))
    (try simp only [Exit.inBlock, Exit.then])
    refine bodyPost_ret (v := .tuple #[.string ⟨#[]⟩, .agg #[.int .i64 0, .int .i64 0, .int .i64 0, .int .i64 0, .int .i64 0, .int .i64 0, .int .i64 0, .string ⟨#[]⟩, .string ⟨#[]⟩, .string ⟨#[]⟩, .int .i64 0, .int .i64 0, .slice none 0 0], .int .i64 er]) ?_ ?_ ?_
    · rw [results_tct (fn := Try.f88) rfl]; simp [go_sem, a0, a1, a2, a3, a4, a5, a6, a7, a8, a9, a10, a11, a12]
    · rfl
    · refine ⟨?_, ?_⟩
      · rw [HQ.out]
        exact .inl ⟨HR0.out, by rw [HER.out]⟩
      · repeat (with_reducible refine Below.setCell ?_ (by show w.heap.size ≤ w.heap.size + 1 + 1; omega) _)
        exact HW5.out
theorem turning_any (s : StM) (aa : Option Addr) (nn cc : Nat) (l : LetM) (draw : Nat) (A : Nat → Prop) (w : World) (h255 : s.step ≤ 255) (hls : l.step ≤ 254) (hc : l.count ≤ 254) (hpv : l.prev ≤ 150) (hl : s.kept.length ≤ 100) (hin : s.inn.length = 8) (hroot : s.root.length = 8) (hs : s.secret < 2147483647) (hp : l.pub < 2147483647) (hd : draw < 2147483647) (hv : EntsAt w (.slice aa nn cc) s.kept) (ho : Off A (.slice aa nn cc)) (hA : ∀ g, A g → g < w.heap.size) :
    Calls Try.prog 88 #[.agg #[.int .i64 s.role, .int .i64 s.step, .int .i64 s.sent, .int .i64 s.got, .int .i64 s.prev, .int .i64 s.skip, .int .i64 s.cap, .string (str s.root), .string (str s.out), .string (str s.inn), .int .i64 s.secret, .int .i64 s.peer, .slice aa nn cc], .agg #[.int .i64 l.step, .int .i64 l.count, .int .i64 l.prev, .int .i64 l.pub, .string (str l.head), .string (str l.body)], .int .i64 draw] w fun e w' => TakeOut (turnR s l draw) A w' e ∧ Below w.heap.size w w' := by
  by_cases h2 : 2 ≤ s.step
  · by_cases hb : skipBad s l.prev
    · exact turning_bad s aa nn cc l draw A w h255 hls hc hpv hl hin hroot hs hp hd hv ho hA h2 hb
    · exact turning_two s aa nn cc l draw A w h255 hls hc hpv hl hin hroot hs hp hd hv ho hA h2 hb
  · exact turning_one s aa nn cc l draw A w h255 hls hc hpv hl hin hroot hs hp hd hv ho hA h2
def keyR (s : StM) (l : LetM) (draw : Nat) : Int × List UInt8 × StM := if s.step + 1 < l.step ∨ l.step % 2 = s.step % 2 then (15, [], s) else if l.step = s.step + 1 then turnR s l draw else if l.step + 1 = s.step ∧ s.got ≤ l.count then dueR s l.count else oldR s l
theorem keyOf_far (s : StM) (aa : Option Addr) (nn cc : Nat) (l : LetM) (draw : Nat) (A : Nat → Prop) (w : World) (h255 : s.step ≤ 255) (hls : l.step ≤ 254) (hc : l.count ≤ 254) (hpv : l.prev ≤ 150) (hl : s.kept.length ≤ 100) (hin : s.inn.length = 8) (hroot : s.root.length = 8) (hs : s.secret < 2147483647) (hp : l.pub < 2147483647) (hd : draw < 2147483647) (hv : EntsAt w (.slice aa nn cc) s.kept) (ho : Off A (.slice aa nn cc)) (hA : ∀ g, A g → g < w.heap.size) (hx : s.step + 1 < l.step ∨ l.step % 2 = s.step % 2) (hfar : s.step + 1 < l.step) :
    Calls Try.prog 67 #[.agg #[.int .i64 s.role, .int .i64 s.step, .int .i64 s.sent, .int .i64 s.got, .int .i64 s.prev, .int .i64 s.skip, .int .i64 s.cap, .string (str s.root), .string (str s.out), .string (str s.inn), .int .i64 s.secret, .int .i64 s.peer, .slice aa nn cc], .agg #[.int .i64 l.step, .int .i64 l.count, .int .i64 l.prev, .int .i64 l.pub, .string (str l.head), .string (str l.body)], .int .i64 draw] w fun e w' => TakeOut (keyR s l draw) A w' e ∧ Below w.heap.size w w' := by
  have HQ : Hid (keyR s l draw = (15, [], s)) := by
    show _ = _
    rw [keyR, if_pos hx]
  have i1 : (s.step : Int) + 1 < (l.step : Int) := by omega
  go_enter Try.func67, Try.ntmps67
  go_upto_region 1 with fail
  obtain ⟨wb, ewb, hB, hL, hR, hW, hlt⟩ := alloc3e w (.cells #[.int .i64 s.role, .int .i64 s.step, .int .i64 s.sent, .int .i64 s.got, .int .i64 s.prev, .int .i64 s.skip, .int .i64 s.cap, .string (str s.root), .string (str s.out), .string (str s.inn), .int .i64 s.secret, .int .i64 s.peer, .slice aa nn cc] 84) (.cells #[.int .i64 l.step, .int .i64 l.count, .int .i64 l.prev, .int .i64 l.pub, .string (str l.head), .string (str l.body)] 96) (.cells #[.int .i64 0, .int .i64 0, .int .i64 0, .int .i64 0, .int .i64 0, .int .i64 0, .int .i64 0, .string ⟨#[]⟩, .string ⟨#[]⟩, .string ⟨#[]⟩, .int .i64 0, .int .i64 0, .slice none 0 0] 84); rw [← ewb]; clear ewb; have HB := hid hB; have HL := hid hL; have HR := hid hR; have HW := hid hW; obtain ⟨k0, k1, k2, k3, k4, k5, k6, k7, k8, k9, k10, k11, k12⟩ := cells13 hB; obtain ⟨q0, q1, q2, q3, q4, q5⟩ := cells6 hL; obtain ⟨a0, a1, a2, a3, a4, a5, a6, a7, a8, a9, a10, a11, a12⟩ := cells13 hR
  have fA : ∀ j, wb.frozen? ⟨w.heap.size + 1 + 1, j, none⟩ = false := fun j => frozen_of_row wb _ j _ _ hR
  have hlt2 : w.heap.size + 1 + 1 < wb.heap.size := by omega
  clear hB hL hR hW hv ho hA HB HL HR hx; go_wp2
  (try simp only [Exit.inBlock, Exit.then])
  refine bodyPost_ret (v := .tuple #[.string ⟨#[]⟩, .agg #[.int .i64 0, .int .i64 0, .int .i64 0, .int .i64 0, .int .i64 0, .int .i64 0, .int .i64 0, .string ⟨#[]⟩, .string ⟨#[]⟩, .string ⟨#[]⟩, .int .i64 0, .int .i64 0, .slice none 0 0], .int .i64 15]) ?_ ?_ ?_
  · rw [results_tct (fn := Try.f67) rfl]; simp [go_sem, a0, a1, a2, a3, a4, a5, a6, a7, a8, a9, a10, a11, a12]
  · rfl
  · refine ⟨by rw [HQ.out]; exact .inl ⟨by simp, rfl⟩, ?_⟩
    repeat (with_reducible refine Below.setCell ?_ (by show w.heap.size ≤ w.heap.size + 1 + 1; omega) _)
    exact HW.out
theorem keyOf_par (s : StM) (aa : Option Addr) (nn cc : Nat) (l : LetM) (draw : Nat) (A : Nat → Prop) (w : World) (h255 : s.step ≤ 255) (hls : l.step ≤ 254) (hc : l.count ≤ 254) (hpv : l.prev ≤ 150) (hl : s.kept.length ≤ 100) (hin : s.inn.length = 8) (hroot : s.root.length = 8) (hs : s.secret < 2147483647) (hp : l.pub < 2147483647) (hd : draw < 2147483647) (hv : EntsAt w (.slice aa nn cc) s.kept) (ho : Off A (.slice aa nn cc)) (hA : ∀ g, A g → g < w.heap.size) (hx : s.step + 1 < l.step ∨ l.step % 2 = s.step % 2) (hfar : ¬ s.step + 1 < l.step) :
    Calls Try.prog 67 #[.agg #[.int .i64 s.role, .int .i64 s.step, .int .i64 s.sent, .int .i64 s.got, .int .i64 s.prev, .int .i64 s.skip, .int .i64 s.cap, .string (str s.root), .string (str s.out), .string (str s.inn), .int .i64 s.secret, .int .i64 s.peer, .slice aa nn cc], .agg #[.int .i64 l.step, .int .i64 l.count, .int .i64 l.prev, .int .i64 l.pub, .string (str l.head), .string (str l.body)], .int .i64 draw] w fun e w' => TakeOut (keyR s l draw) A w' e ∧ Below w.heap.size w w' := by
  have HQ : Hid (keyR s l draw = (15, [], s)) := by
    show _ = _
    rw [keyR, if_pos hx]
  have i1 : ¬ (s.step : Int) + 1 < (l.step : Int) := by omega
  have i2 : (l.step : Int) % 2 = (s.step : Int) % 2 := by omega
  go_enter Try.func67, Try.ntmps67
  go_upto_region 1 with fail
  obtain ⟨wb, ewb, hB, hL, hR, hW, hlt⟩ := alloc3e w (.cells #[.int .i64 s.role, .int .i64 s.step, .int .i64 s.sent, .int .i64 s.got, .int .i64 s.prev, .int .i64 s.skip, .int .i64 s.cap, .string (str s.root), .string (str s.out), .string (str s.inn), .int .i64 s.secret, .int .i64 s.peer, .slice aa nn cc] 84) (.cells #[.int .i64 l.step, .int .i64 l.count, .int .i64 l.prev, .int .i64 l.pub, .string (str l.head), .string (str l.body)] 96) (.cells #[.int .i64 0, .int .i64 0, .int .i64 0, .int .i64 0, .int .i64 0, .int .i64 0, .int .i64 0, .string ⟨#[]⟩, .string ⟨#[]⟩, .string ⟨#[]⟩, .int .i64 0, .int .i64 0, .slice none 0 0] 84); rw [← ewb]; clear ewb; have HB := hid hB; have HL := hid hL; have HR := hid hR; have HW := hid hW; obtain ⟨k0, k1, k2, k3, k4, k5, k6, k7, k8, k9, k10, k11, k12⟩ := cells13 hB; obtain ⟨q0, q1, q2, q3, q4, q5⟩ := cells6 hL; obtain ⟨a0, a1, a2, a3, a4, a5, a6, a7, a8, a9, a10, a11, a12⟩ := cells13 hR
  have fA : ∀ j, wb.frozen? ⟨w.heap.size + 1 + 1, j, none⟩ = false := fun j => frozen_of_row wb _ j _ _ hR
  have hlt2 : w.heap.size + 1 + 1 < wb.heap.size := by omega
  clear hB hL hR hW hv ho hA HB HL HR hx; go_wp2
  (try simp only [Exit.inBlock, Exit.then])
  refine bodyPost_ret (v := .tuple #[.string ⟨#[]⟩, .agg #[.int .i64 0, .int .i64 0, .int .i64 0, .int .i64 0, .int .i64 0, .int .i64 0, .int .i64 0, .string ⟨#[]⟩, .string ⟨#[]⟩, .string ⟨#[]⟩, .int .i64 0, .int .i64 0, .slice none 0 0], .int .i64 15]) ?_ ?_ ?_
  · rw [results_tct (fn := Try.f67) rfl]; simp [go_sem, a0, a1, a2, a3, a4, a5, a6, a7, a8, a9, a10, a11, a12]
  · rfl
  · refine ⟨by rw [HQ.out]; exact .inl ⟨by simp, rfl⟩, ?_⟩
    repeat (with_reducible refine Below.setCell ?_ (by show w.heap.size ≤ w.heap.size + 1 + 1; omega) _)
    exact HW.out
theorem keyOf_turn (s : StM) (aa : Option Addr) (nn cc : Nat) (l : LetM) (draw : Nat) (A : Nat → Prop) (w : World) (h255 : s.step ≤ 255) (hls : l.step ≤ 254) (hc : l.count ≤ 254) (hpv : l.prev ≤ 150) (hl : s.kept.length ≤ 100) (hin : s.inn.length = 8) (hroot : s.root.length = 8) (hs : s.secret < 2147483647) (hp : l.pub < 2147483647) (hd : draw < 2147483647) (hv : EntsAt w (.slice aa nn cc) s.kept) (ho : Off A (.slice aa nn cc)) (hA : ∀ g, A g → g < w.heap.size) (hx : ¬ (s.step + 1 < l.step ∨ l.step % 2 = s.step % 2)) (h1 : l.step = s.step + 1) :
    Calls Try.prog 67 #[.agg #[.int .i64 s.role, .int .i64 s.step, .int .i64 s.sent, .int .i64 s.got, .int .i64 s.prev, .int .i64 s.skip, .int .i64 s.cap, .string (str s.root), .string (str s.out), .string (str s.inn), .int .i64 s.secret, .int .i64 s.peer, .slice aa nn cc], .agg #[.int .i64 l.step, .int .i64 l.count, .int .i64 l.prev, .int .i64 l.pub, .string (str l.head), .string (str l.body)], .int .i64 draw] w fun e w' => TakeOut (keyR s l draw) A w' e ∧ Below w.heap.size w w' := by
  have HA : Hid (∀ g, A g → g < w.heap.size) := hA
  have HQ : Hid (keyR s l draw = (turnR s l draw)) := by
    show _ = _
    rw [keyR, if_neg hx, if_pos h1]
  have H1 : Hid (l.step = s.step + 1) := h1; clear h1
  go_enter Try.func67, Try.ntmps67
  go_upto_region 1 with fail
  obtain ⟨wb, ewb, hB, hL, hR, hW, hlt⟩ := alloc3e w (.cells #[.int .i64 s.role, .int .i64 s.step, .int .i64 s.sent, .int .i64 s.got, .int .i64 s.prev, .int .i64 s.skip, .int .i64 s.cap, .string (str s.root), .string (str s.out), .string (str s.inn), .int .i64 s.secret, .int .i64 s.peer, .slice aa nn cc] 84) (.cells #[.int .i64 l.step, .int .i64 l.count, .int .i64 l.prev, .int .i64 l.pub, .string (str l.head), .string (str l.body)] 96) (.cells #[.int .i64 0, .int .i64 0, .int .i64 0, .int .i64 0, .int .i64 0, .int .i64 0, .int .i64 0, .string ⟨#[]⟩, .string ⟨#[]⟩, .string ⟨#[]⟩, .int .i64 0, .int .i64 0, .slice none 0 0] 84); rw [← ewb]; clear ewb; have HB := hid hB; have HL := hid hL; have HR := hid hR; have HW := hid hW; obtain ⟨k0, k1, k2, k3, k4, k5, k6, k7, k8, k9, k10, k11, k12⟩ := cells13 hB; obtain ⟨q0, q1, q2, q3, q4, q5⟩ := cells6 hL; have h1 := H1.out
  have i1 : ¬ (s.step : Int) + 1 < (l.step : Int) := by omega
  have i2 : ¬ (l.step : Int) % 2 = (s.step : Int) % 2 := by omega
  have i4 : (l.step : Int) = (s.step : Int) + 1 := by omega
  clear hx h1; have hOw : Off (With A w.heap.size (w.heap.size + 1 + 1 + 1)) (.slice aa nn cc) := ho.with hv _
  have cd : ∀ w0, EntsAt w0 (.slice aa nn cc) s.kept ∧ w0 = wb → Calls Try.prog 88 #[.agg #[.int .i64 s.role, .int .i64 s.step, .int .i64 s.sent, .int .i64 s.got, .int .i64 s.prev, .int .i64 s.skip, .int .i64 s.cap, .string (str s.root), .string (str s.out), .string (str s.inn), .int .i64 s.secret, .int .i64 s.peer, .slice aa nn cc], .agg #[.int .i64 ((s.step : Int) + 1), .int .i64 l.count, .int .i64 l.prev, .int .i64 l.pub, .string (str l.head), .string (str l.body)], .int .i64 draw] w0 fun e w' => TakeOut (turnR s l draw) (With A w.heap.size (w.heap.size + 1 + 1 + 1)) w' e ∧ Below w0.heap.size w0 w' := by
    rintro w0 ⟨hE0, hw0⟩
    rw [hw0] at hE0 ⊢
    rw [show ((s.step : Int) + 1) = (l.step : Int) by omega]; exact turning_any s aa nn cc l draw (With A w.heap.size (w.heap.size + 1 + 1 + 1)) wb h255 hls hc hpv hl hin hroot hs hp hd hE0 hOw (fun g hg => by rcases hg with hg | hg; (have := HA.out g hg; omega); omega)
  have HE : Hid (EntsAt wb (.slice aa nn cc) s.kept ∧ wb = wb) := ⟨hv.next hW, rfl⟩
  have hlt4 : w.heap.size + 1 + 1 < wb.heap.size := by omega
  clear hB hL hR hW hv ho hA HB HL hOw
  by_cases hr0 : (turnR s l draw).1 = 0
  · have cO : ∀ w0, EntsAt w0 (.slice aa nn cc) s.kept ∧ w0 = wb → Calls Try.prog 88 #[.agg #[.int .i64 s.role, .int .i64 s.step, .int .i64 s.sent, .int .i64 s.got, .int .i64 s.prev, .int .i64 s.skip, .int .i64 s.cap, .string (str s.root), .string (str s.out), .string (str s.inn), .int .i64 s.secret, .int .i64 s.peer, .slice aa nn cc], .agg #[.int .i64 ((s.step : Int) + 1), .int .i64 l.count, .int .i64 l.prev, .int .i64 l.pub, .string (str l.head), .string (str l.body)], .int .i64 draw] w0 fun e w' => (∃ (a : Option Addr) (n c : Nat), e = .returned (.tuple #[.string (str (turnR s l draw).2.1), .agg (stCells (turnR s l draw).2.2 (.slice a n c)), .int .i64 0]) ∧ EntsAt w' (.slice a n c) (turnR s l draw).2.2.kept ∧ Off (With A w.heap.size (w.heap.size + 1 + 1 + 1)) (.slice a n c)) ∧ Below w0.heap.size w0 w' := by
      intro w0 hE
      refine (cd w0 hE).mono ?_
      rintro e w' ⟨q, hw⟩
      rcases q with ⟨q, _⟩ | ⟨_, q⟩
      · exact absurd hr0 q
      · exact ⟨q, hw⟩
    have HR0 : Hid ((turnR s l draw).1 = 0) := hr0
    obtain ⟨q, hq2⟩ : ∃ q, q = (turnR s l draw).2.2 := ⟨_, rfl⟩
    obtain ⟨ky, hky⟩ : ∃ ky, ky = str (turnR s l draw).2.1 := ⟨_, rfl⟩
    unfold stCells at cO
    rw [← hq2, ← hky] at cO
    have HQ2 : Hid (q = (turnR s l draw).2.2) := hq2; have HKY : Hid (ky = str (turnR s l draw).2.1) := hky; clear cd hr0 hq2 hky
    go_wp2_with (first | (go_at_call 88; (with_reducible refine (cO _ HE.out).mono ?_); rintro e w5 ⟨⟨a, n, c, rfl, hE5, hO5⟩, hb5⟩; have HE5 := hid hE5; have HO5 := hid hO5; clear hE5 hO5; have hR5 := (hb5.block (w.heap.size + 1 + 1) hlt4).trans HR.out; have hlt2 : w.heap.size + 1 + 1 < w5.heap.size := Nat.lt_of_lt_of_le hlt4 hb5.size; have HW5 : Hid (Below w.heap.size w w5) := below_tr HW.out hb5; obtain ⟨a0, a1, a2, a3, a4, a5, a6, a7, a8, a9, a10, a11, a12⟩ := cells13 hR5; have fA : ∀ j, w5.frozen? ⟨w.heap.size + 1 + 1, j, none⟩ = false := fun j => frozen_of_row w5 _ j _ _ hR5; clear hR5 hb5))
    (try simp only [Exit.inBlock, Exit.then])
    refine bodyPost_ret (v := .tuple #[.string ky, .agg #[.int .i64 q.role, .int .i64 q.step, .int .i64 q.sent, .int .i64 q.got, .int .i64 q.prev, .int .i64 q.skip, .int .i64 q.cap, .string (str q.root), .string (str q.out), .string (str q.inn), .int .i64 q.secret, .int .i64 q.peer, .slice a n c], .int .i64 0]) ?_ ?_ ?_
    · rw [results_tct (fn := Try.f67) rfl]; simp [go_sem, a0, a1, a2, a3, a4, a5, a6, a7, a8, a9, a10, a11, a12]
    · rfl
    · refine ⟨?_, ?_⟩
      · rw [HQ.out]
        refine .inr ⟨HR0.out, a, n, c, by rw [← HQ2.out, ← HKY.out]; rfl, ?_, HO5.out.mono (fun g hg => .inl hg)⟩
        rw [← HQ2.out]
        have hOR : Off (fun g => g = w.heap.size + 1 + 1) (.slice a n c) := HO5.out.mono (fun g hg => by right; omega)
        repeat (with_reducible refine EntsAt.put ?_ hOR _ _)
        exact HE5.out
      · repeat (with_reducible refine Below.setCell ?_ (by show w.heap.size ≤ w.heap.size + 1 + 1; omega) _)
        exact HW5.out
  · have cE : ∀ w0, EntsAt w0 (.slice aa nn cc) s.kept ∧ w0 = wb → Calls Try.prog 88 #[.agg #[.int .i64 s.role, .int .i64 s.step, .int .i64 s.sent, .int .i64 s.got, .int .i64 s.prev, .int .i64 s.skip, .int .i64 s.cap, .string (str s.root), .string (str s.out), .string (str s.inn), .int .i64 s.secret, .int .i64 s.peer, .slice aa nn cc], .agg #[.int .i64 ((s.step : Int) + 1), .int .i64 l.count, .int .i64 l.prev, .int .i64 l.pub, .string (str l.head), .string (str l.body)], .int .i64 draw] w0 fun e w' => e = .returned (.tuple #[.string ⟨#[]⟩, .agg #[.int .i64 0, .int .i64 0, .int .i64 0, .int .i64 0, .int .i64 0, .int .i64 0, .int .i64 0, .string ⟨#[]⟩, .string ⟨#[]⟩, .string ⟨#[]⟩, .int .i64 0, .int .i64 0, .slice none 0 0], .int .i64 (turnR s l draw).1]) ∧ Below w0.heap.size w0 w' := by
      intro w0 hE
      refine (cd w0 hE).mono ?_
      rintro e w' ⟨q, hw⟩
      rcases q with ⟨_, q⟩ | ⟨q, _⟩
      · exact ⟨q, hw⟩
      · exact absurd q hr0
    have HR0 : Hid ((turnR s l draw).1 ≠ 0) := hr0; clear cd hr0
    obtain ⟨er, her⟩ : ∃ er, er = (turnR s l draw).1 := ⟨_, rfl⟩
    rw [← her] at cE
    have HER : Hid (er = (turnR s l draw).1) := her; clear her
    go_wp2_with (first | (go_at_call 88; (with_reducible refine (cE _ HE.out).mono ?_); rintro e w5 ⟨rfl, hb5⟩; have hR5 := (hb5.block (w.heap.size + 1 + 1) hlt4).trans HR.out; have hlt2 : w.heap.size + 1 + 1 < w5.heap.size := Nat.lt_of_lt_of_le hlt4 hb5.size; have HW5 : Hid (Below w.heap.size w w5) := below_tr HW.out hb5; obtain ⟨a0, a1, a2, a3, a4, a5, a6, a7, a8, a9, a10, a11, a12⟩ := cells13 hR5; have fA : ∀ j, w5.frozen? ⟨w.heap.size + 1 + 1, j, none⟩ = false := fun j => frozen_of_row w5 _ j _ _ hR5; clear hR5 hb5))
    (try simp only [Exit.inBlock, Exit.then])
    refine bodyPost_ret (v := .tuple #[.string ⟨#[]⟩, .agg #[.int .i64 0, .int .i64 0, .int .i64 0, .int .i64 0, .int .i64 0, .int .i64 0, .int .i64 0, .string ⟨#[]⟩, .string ⟨#[]⟩, .string ⟨#[]⟩, .int .i64 0, .int .i64 0, .slice none 0 0], .int .i64 er]) ?_ ?_ ?_
    · rw [results_tct (fn := Try.f67) rfl]; simp [go_sem, a0, a1, a2, a3, a4, a5, a6, a7, a8, a9, a10, a11, a12]
    · rfl
    · refine ⟨?_, ?_⟩
      · rw [HQ.out]
        exact .inl ⟨HR0.out, by rw [HER.out]⟩
      · repeat (with_reducible refine Below.setCell ?_ (by show w.heap.size ≤ w.heap.size + 1 + 1; omega) _)
        exact HW5.out
theorem keyOf_due (s : StM) (aa : Option Addr) (nn cc : Nat) (l : LetM) (draw : Nat) (A : Nat → Prop) (w : World) (h255 : s.step ≤ 255) (hls : l.step ≤ 254) (hc : l.count ≤ 254) (hpv : l.prev ≤ 150) (hl : s.kept.length ≤ 100) (hin : s.inn.length = 8) (hroot : s.root.length = 8) (hs : s.secret < 2147483647) (hp : l.pub < 2147483647) (hd : draw < 2147483647) (hv : EntsAt w (.slice aa nn cc) s.kept) (ho : Off A (.slice aa nn cc)) (hA : ∀ g, A g → g < w.heap.size) (hx : ¬ (s.step + 1 < l.step ∨ l.step % 2 = s.step % 2)) (h1 : ¬ l.step = s.step + 1) (h2 : l.step + 1 = s.step) (h3 : s.got ≤ l.count) :
    Calls Try.prog 67 #[.agg #[.int .i64 s.role, .int .i64 s.step, .int .i64 s.sent, .int .i64 s.got, .int .i64 s.prev, .int .i64 s.skip, .int .i64 s.cap, .string (str s.root), .string (str s.out), .string (str s.inn), .int .i64 s.secret, .int .i64 s.peer, .slice aa nn cc], .agg #[.int .i64 l.step, .int .i64 l.count, .int .i64 l.prev, .int .i64 l.pub, .string (str l.head), .string (str l.body)], .int .i64 draw] w fun e w' => TakeOut (keyR s l draw) A w' e ∧ Below w.heap.size w w' := by
  have HA : Hid (∀ g, A g → g < w.heap.size) := hA
  have HQ : Hid (keyR s l draw = (dueR s l.count)) := by
    show _ = _
    rw [keyR, if_neg hx, if_neg h1, if_pos ⟨h2, h3⟩]
  have H2 : Hid (l.step + 1 = s.step) := h2; clear h2
  go_enter Try.func67, Try.ntmps67
  go_upto_region 1 with fail
  obtain ⟨wb, ewb, hB, hL, hR, hW, hlt⟩ := alloc3e w (.cells #[.int .i64 s.role, .int .i64 s.step, .int .i64 s.sent, .int .i64 s.got, .int .i64 s.prev, .int .i64 s.skip, .int .i64 s.cap, .string (str s.root), .string (str s.out), .string (str s.inn), .int .i64 s.secret, .int .i64 s.peer, .slice aa nn cc] 84) (.cells #[.int .i64 l.step, .int .i64 l.count, .int .i64 l.prev, .int .i64 l.pub, .string (str l.head), .string (str l.body)] 96) (.cells #[.int .i64 0, .int .i64 0, .int .i64 0, .int .i64 0, .int .i64 0, .int .i64 0, .int .i64 0, .string ⟨#[]⟩, .string ⟨#[]⟩, .string ⟨#[]⟩, .int .i64 0, .int .i64 0, .slice none 0 0] 84); rw [← ewb]; clear ewb; have HB := hid hB; have HL := hid hL; have HR := hid hR; have HW := hid hW; obtain ⟨k0, k1, k2, k3, k4, k5, k6, k7, k8, k9, k10, k11, k12⟩ := cells13 hB; obtain ⟨q0, q1, q2, q3, q4, q5⟩ := cells6 hL; have h2 := H2.out
  have h1s : 1 ≤ s.step := by omega
  have i1 : ¬ (s.step : Int) + 1 < (l.step : Int) := by omega
  have i2 : ¬ (l.step : Int) % 2 = (s.step : Int) % 2 := by omega
  have i4 : ¬ (l.step : Int) = (s.step : Int) + 1 := by omega
  have i5 : ((l.step : Int) == (s.step : Int) - 1) = true := by rw [beq_iff_eq]; omega
  have i6 : (s.got : Int) ≤ (l.count : Int) := by omega
  clear hx h2; have hOw : Off (With A w.heap.size (w.heap.size + 1 + 1 + 1)) (.slice aa nn cc) := ho.with hv _
  have cd : ∀ w0, EntsAt w0 (.slice aa nn cc) s.kept ∧ w0 = wb → Calls Try.prog 89 #[.agg #[.int .i64 s.role, .int .i64 s.step, .int .i64 s.sent, .int .i64 s.got, .int .i64 s.prev, .int .i64 s.skip, .int .i64 s.cap, .string (str s.root), .string (str s.out), .string (str s.inn), .int .i64 s.secret, .int .i64 s.peer, .slice aa nn cc], .agg #[.int .i64 l.step, .int .i64 l.count, .int .i64 l.prev, .int .i64 l.pub, .string (str l.head), .string (str l.body)]] w0 fun e w' => TakeOut (dueR s l.count) (With A w.heap.size (w.heap.size + 1 + 1 + 1)) w' e ∧ Below w0.heap.size w0 w' := by
    rintro w0 ⟨hE0, hw0⟩
    rw [hw0] at hE0 ⊢
    exact dueT_any s aa nn cc l (With A w.heap.size (w.heap.size + 1 + 1 + 1)) wb h1s h255 hc (by omega) hin hE0 hOw (fun g hg => by rcases hg with hg | hg; (have := HA.out g hg; omega); omega)
  have HE : Hid (EntsAt wb (.slice aa nn cc) s.kept ∧ wb = wb) := ⟨hv.next hW, rfl⟩
  have hlt4 : w.heap.size + 1 + 1 < wb.heap.size := by omega
  clear hB hL hR hW hv ho hA HB HL hOw
  by_cases hr0 : (dueR s l.count).1 = 0
  · have cO : ∀ w0, EntsAt w0 (.slice aa nn cc) s.kept ∧ w0 = wb → Calls Try.prog 89 #[.agg #[.int .i64 s.role, .int .i64 s.step, .int .i64 s.sent, .int .i64 s.got, .int .i64 s.prev, .int .i64 s.skip, .int .i64 s.cap, .string (str s.root), .string (str s.out), .string (str s.inn), .int .i64 s.secret, .int .i64 s.peer, .slice aa nn cc], .agg #[.int .i64 l.step, .int .i64 l.count, .int .i64 l.prev, .int .i64 l.pub, .string (str l.head), .string (str l.body)]] w0 fun e w' => (∃ (a : Option Addr) (n c : Nat), e = .returned (.tuple #[.string (str (dueR s l.count).2.1), .agg (stCells (dueR s l.count).2.2 (.slice a n c)), .int .i64 0]) ∧ EntsAt w' (.slice a n c) (dueR s l.count).2.2.kept ∧ Off (With A w.heap.size (w.heap.size + 1 + 1 + 1)) (.slice a n c)) ∧ Below w0.heap.size w0 w' := by
      intro w0 hE
      refine (cd w0 hE).mono ?_
      rintro e w' ⟨q, hw⟩
      rcases q with ⟨q, _⟩ | ⟨_, q⟩
      · exact absurd hr0 q
      · exact ⟨q, hw⟩
    have HR0 : Hid ((dueR s l.count).1 = 0) := hr0
    obtain ⟨q, hq2⟩ : ∃ q, q = (dueR s l.count).2.2 := ⟨_, rfl⟩
    obtain ⟨ky, hky⟩ : ∃ ky, ky = str (dueR s l.count).2.1 := ⟨_, rfl⟩
    unfold stCells at cO
    rw [← hq2, ← hky] at cO
    have HQ2 : Hid (q = (dueR s l.count).2.2) := hq2; have HKY : Hid (ky = str (dueR s l.count).2.1) := hky; clear cd hr0 hq2 hky
    go_wp2_with (first | (go_at_call 89; (with_reducible refine (cO _ HE.out).mono ?_); rintro e w5 ⟨⟨a, n, c, rfl, hE5, hO5⟩, hb5⟩; have HE5 := hid hE5; have HO5 := hid hO5; clear hE5 hO5; have hR5 := (hb5.block (w.heap.size + 1 + 1) hlt4).trans HR.out; have hlt2 : w.heap.size + 1 + 1 < w5.heap.size := Nat.lt_of_lt_of_le hlt4 hb5.size; have HW5 : Hid (Below w.heap.size w w5) := below_tr HW.out hb5; obtain ⟨a0, a1, a2, a3, a4, a5, a6, a7, a8, a9, a10, a11, a12⟩ := cells13 hR5; have fA : ∀ j, w5.frozen? ⟨w.heap.size + 1 + 1, j, none⟩ = false := fun j => frozen_of_row w5 _ j _ _ hR5; clear hR5 hb5))
    (try simp only [Exit.inBlock, Exit.then])
    refine bodyPost_ret (v := .tuple #[.string ky, .agg #[.int .i64 q.role, .int .i64 q.step, .int .i64 q.sent, .int .i64 q.got, .int .i64 q.prev, .int .i64 q.skip, .int .i64 q.cap, .string (str q.root), .string (str q.out), .string (str q.inn), .int .i64 q.secret, .int .i64 q.peer, .slice a n c], .int .i64 0]) ?_ ?_ ?_
    · rw [results_tct (fn := Try.f67) rfl]; simp [go_sem, a0, a1, a2, a3, a4, a5, a6, a7, a8, a9, a10, a11, a12]
    · rfl
    · refine ⟨?_, ?_⟩
      · rw [HQ.out]
        refine .inr ⟨HR0.out, a, n, c, by rw [← HQ2.out, ← HKY.out]; rfl, ?_, HO5.out.mono (fun g hg => .inl hg)⟩
        rw [← HQ2.out]
        have hOR : Off (fun g => g = w.heap.size + 1 + 1) (.slice a n c) := HO5.out.mono (fun g hg => by right; omega)
        repeat (with_reducible refine EntsAt.put ?_ hOR _ _)
        exact HE5.out
      · repeat (with_reducible refine Below.setCell ?_ (by show w.heap.size ≤ w.heap.size + 1 + 1; omega) _)
        exact HW5.out
  · have cE : ∀ w0, EntsAt w0 (.slice aa nn cc) s.kept ∧ w0 = wb → Calls Try.prog 89 #[.agg #[.int .i64 s.role, .int .i64 s.step, .int .i64 s.sent, .int .i64 s.got, .int .i64 s.prev, .int .i64 s.skip, .int .i64 s.cap, .string (str s.root), .string (str s.out), .string (str s.inn), .int .i64 s.secret, .int .i64 s.peer, .slice aa nn cc], .agg #[.int .i64 l.step, .int .i64 l.count, .int .i64 l.prev, .int .i64 l.pub, .string (str l.head), .string (str l.body)]] w0 fun e w' => e = .returned (.tuple #[.string ⟨#[]⟩, .agg #[.int .i64 0, .int .i64 0, .int .i64 0, .int .i64 0, .int .i64 0, .int .i64 0, .int .i64 0, .string ⟨#[]⟩, .string ⟨#[]⟩, .string ⟨#[]⟩, .int .i64 0, .int .i64 0, .slice none 0 0], .int .i64 (dueR s l.count).1]) ∧ Below w0.heap.size w0 w' := by
      intro w0 hE
      refine (cd w0 hE).mono ?_
      rintro e w' ⟨q, hw⟩
      rcases q with ⟨_, q⟩ | ⟨q, _⟩
      · exact ⟨q, hw⟩
      · exact absurd q hr0
    have HR0 : Hid ((dueR s l.count).1 ≠ 0) := hr0; clear cd hr0
    obtain ⟨er, her⟩ : ∃ er, er = (dueR s l.count).1 := ⟨_, rfl⟩
    rw [← her] at cE
    have HER : Hid (er = (dueR s l.count).1) := her; clear her
    go_wp2_with (first | (go_at_call 89; (with_reducible refine (cE _ HE.out).mono ?_); rintro e w5 ⟨rfl, hb5⟩; have hR5 := (hb5.block (w.heap.size + 1 + 1) hlt4).trans HR.out; have hlt2 : w.heap.size + 1 + 1 < w5.heap.size := Nat.lt_of_lt_of_le hlt4 hb5.size; have HW5 : Hid (Below w.heap.size w w5) := below_tr HW.out hb5; obtain ⟨a0, a1, a2, a3, a4, a5, a6, a7, a8, a9, a10, a11, a12⟩ := cells13 hR5; have fA : ∀ j, w5.frozen? ⟨w.heap.size + 1 + 1, j, none⟩ = false := fun j => frozen_of_row w5 _ j _ _ hR5; clear hR5 hb5))
    (try simp only [Exit.inBlock, Exit.then])
    refine bodyPost_ret (v := .tuple #[.string ⟨#[]⟩, .agg #[.int .i64 0, .int .i64 0, .int .i64 0, .int .i64 0, .int .i64 0, .int .i64 0, .int .i64 0, .string ⟨#[]⟩, .string ⟨#[]⟩, .string ⟨#[]⟩, .int .i64 0, .int .i64 0, .slice none 0 0], .int .i64 er]) ?_ ?_ ?_
    · rw [results_tct (fn := Try.f67) rfl]; simp [go_sem, a0, a1, a2, a3, a4, a5, a6, a7, a8, a9, a10, a11, a12]
    · rfl
    · refine ⟨?_, ?_⟩
      · rw [HQ.out]
        exact .inl ⟨HR0.out, by rw [HER.out]⟩
      · repeat (with_reducible refine Below.setCell ?_ (by show w.heap.size ≤ w.heap.size + 1 + 1; omega) _)
        exact HW5.out
theorem keyOf_oldA (s : StM) (aa : Option Addr) (nn cc : Nat) (l : LetM) (draw : Nat) (A : Nat → Prop) (w : World) (h255 : s.step ≤ 255) (hls : l.step ≤ 254) (hc : l.count ≤ 254) (hpv : l.prev ≤ 150) (hl : s.kept.length ≤ 100) (hin : s.inn.length = 8) (hroot : s.root.length = 8) (hs : s.secret < 2147483647) (hp : l.pub < 2147483647) (hd : draw < 2147483647) (hv : EntsAt w (.slice aa nn cc) s.kept) (ho : Off A (.slice aa nn cc)) (hA : ∀ g, A g → g < w.heap.size) (hx : ¬ (s.step + 1 < l.step ∨ l.step % 2 = s.step % 2)) (h1 : ¬ l.step = s.step + 1) (h2 : ¬ l.step + 1 = s.step) :
    Calls Try.prog 67 #[.agg #[.int .i64 s.role, .int .i64 s.step, .int .i64 s.sent, .int .i64 s.got, .int .i64 s.prev, .int .i64 s.skip, .int .i64 s.cap, .string (str s.root), .string (str s.out), .string (str s.inn), .int .i64 s.secret, .int .i64 s.peer, .slice aa nn cc], .agg #[.int .i64 l.step, .int .i64 l.count, .int .i64 l.prev, .int .i64 l.pub, .string (str l.head), .string (str l.body)], .int .i64 draw] w fun e w' => TakeOut (keyR s l draw) A w' e ∧ Below w.heap.size w w' := by
  have HA : Hid (∀ g, A g → g < w.heap.size) := hA
  have HQ : Hid (keyR s l draw = (oldR s l)) := by
    show _ = _
    rw [keyR, if_neg hx, if_neg h1, if_neg (fun q => h2 q.1)]
  go_enter Try.func67, Try.ntmps67
  go_upto_region 1 with fail
  obtain ⟨wb, ewb, hB, hL, hR, hW, hlt⟩ := alloc3e w (.cells #[.int .i64 s.role, .int .i64 s.step, .int .i64 s.sent, .int .i64 s.got, .int .i64 s.prev, .int .i64 s.skip, .int .i64 s.cap, .string (str s.root), .string (str s.out), .string (str s.inn), .int .i64 s.secret, .int .i64 s.peer, .slice aa nn cc] 84) (.cells #[.int .i64 l.step, .int .i64 l.count, .int .i64 l.prev, .int .i64 l.pub, .string (str l.head), .string (str l.body)] 96) (.cells #[.int .i64 0, .int .i64 0, .int .i64 0, .int .i64 0, .int .i64 0, .int .i64 0, .int .i64 0, .string ⟨#[]⟩, .string ⟨#[]⟩, .string ⟨#[]⟩, .int .i64 0, .int .i64 0, .slice none 0 0] 84); rw [← ewb]; clear ewb; have HB := hid hB; have HL := hid hL; have HR := hid hR; have HW := hid hW; obtain ⟨k0, k1, k2, k3, k4, k5, k6, k7, k8, k9, k10, k11, k12⟩ := cells13 hB; obtain ⟨q0, q1, q2, q3, q4, q5⟩ := cells6 hL
  have i1 : ¬ (s.step : Int) + 1 < (l.step : Int) := by omega
  have i2 : ¬ (l.step : Int) % 2 = (s.step : Int) % 2 := by omega
  have i4 : ¬ (l.step : Int) = (s.step : Int) + 1 := by omega
  have i5 : ¬ (l.step : Int) = (s.step : Int) - 1 := by omega
  clear hx; have hOw : Off (With A w.heap.size (w.heap.size + 1 + 1 + 1)) (.slice aa nn cc) := ho.with hv _
  have cd : ∀ w0, EntsAt w0 (.slice aa nn cc) s.kept ∧ w0 = wb → Calls Try.prog 90 #[.agg #[.int .i64 s.role, .int .i64 s.step, .int .i64 s.sent, .int .i64 s.got, .int .i64 s.prev, .int .i64 s.skip, .int .i64 s.cap, .string (str s.root), .string (str s.out), .string (str s.inn), .int .i64 s.secret, .int .i64 s.peer, .slice aa nn cc], .agg #[.int .i64 l.step, .int .i64 l.count, .int .i64 l.prev, .int .i64 l.pub, .string (str l.head), .string (str l.body)]] w0 fun e w' => TakeOut (oldR s l) (With A w.heap.size (w.heap.size + 1 + 1 + 1)) w' e ∧ Below w0.heap.size w0 w' := by
    rintro w0 ⟨hE0, hw0⟩
    rw [hw0] at hE0 ⊢
    exact old_any s aa nn cc l (With A w.heap.size (w.heap.size + 1 + 1 + 1)) wb (by omega) hE0 hOw (fun g hg => by rcases hg with hg | hg; (have := HA.out g hg; omega); omega)
  have HE : Hid (EntsAt wb (.slice aa nn cc) s.kept ∧ wb = wb) := ⟨hv.next hW, rfl⟩
  have hlt4 : w.heap.size + 1 + 1 < wb.heap.size := by omega
  clear hB hL hR hW hv ho hA HB HL hOw
  by_cases hr0 : (oldR s l).1 = 0
  · have cO : ∀ w0, EntsAt w0 (.slice aa nn cc) s.kept ∧ w0 = wb → Calls Try.prog 90 #[.agg #[.int .i64 s.role, .int .i64 s.step, .int .i64 s.sent, .int .i64 s.got, .int .i64 s.prev, .int .i64 s.skip, .int .i64 s.cap, .string (str s.root), .string (str s.out), .string (str s.inn), .int .i64 s.secret, .int .i64 s.peer, .slice aa nn cc], .agg #[.int .i64 l.step, .int .i64 l.count, .int .i64 l.prev, .int .i64 l.pub, .string (str l.head), .string (str l.body)]] w0 fun e w' => (∃ (a : Option Addr) (n c : Nat), e = .returned (.tuple #[.string (str (oldR s l).2.1), .agg (stCells (oldR s l).2.2 (.slice a n c)), .int .i64 0]) ∧ EntsAt w' (.slice a n c) (oldR s l).2.2.kept ∧ Off (With A w.heap.size (w.heap.size + 1 + 1 + 1)) (.slice a n c)) ∧ Below w0.heap.size w0 w' := by
      intro w0 hE
      refine (cd w0 hE).mono ?_
      rintro e w' ⟨q, hw⟩
      rcases q with ⟨q, _⟩ | ⟨_, q⟩
      · exact absurd hr0 q
      · exact ⟨q, hw⟩
    have HR0 : Hid ((oldR s l).1 = 0) := hr0
    obtain ⟨q, hq2⟩ : ∃ q, q = (oldR s l).2.2 := ⟨_, rfl⟩
    obtain ⟨ky, hky⟩ : ∃ ky, ky = str (oldR s l).2.1 := ⟨_, rfl⟩
    unfold stCells at cO
    rw [← hq2, ← hky] at cO
    have HQ2 : Hid (q = (oldR s l).2.2) := hq2; have HKY : Hid (ky = str (oldR s l).2.1) := hky; clear cd hr0 hq2 hky
    go_wp2_with (first | (go_at_call 90; (with_reducible refine (cO _ HE.out).mono ?_); rintro e w5 ⟨⟨a, n, c, rfl, hE5, hO5⟩, hb5⟩; have HE5 := hid hE5; have HO5 := hid hO5; clear hE5 hO5; have hR5 := (hb5.block (w.heap.size + 1 + 1) hlt4).trans HR.out; have hlt2 : w.heap.size + 1 + 1 < w5.heap.size := Nat.lt_of_lt_of_le hlt4 hb5.size; have HW5 : Hid (Below w.heap.size w w5) := below_tr HW.out hb5; obtain ⟨a0, a1, a2, a3, a4, a5, a6, a7, a8, a9, a10, a11, a12⟩ := cells13 hR5; have fA : ∀ j, w5.frozen? ⟨w.heap.size + 1 + 1, j, none⟩ = false := fun j => frozen_of_row w5 _ j _ _ hR5; clear hR5 hb5))
    (try simp only [Exit.inBlock, Exit.then])
    refine bodyPost_ret (v := .tuple #[.string ky, .agg #[.int .i64 q.role, .int .i64 q.step, .int .i64 q.sent, .int .i64 q.got, .int .i64 q.prev, .int .i64 q.skip, .int .i64 q.cap, .string (str q.root), .string (str q.out), .string (str q.inn), .int .i64 q.secret, .int .i64 q.peer, .slice a n c], .int .i64 0]) ?_ ?_ ?_
    · rw [results_tct (fn := Try.f67) rfl]; simp [go_sem, a0, a1, a2, a3, a4, a5, a6, a7, a8, a9, a10, a11, a12]
    · rfl
    · refine ⟨?_, ?_⟩
      · rw [HQ.out]
        refine .inr ⟨HR0.out, a, n, c, by rw [← HQ2.out, ← HKY.out]; rfl, ?_, HO5.out.mono (fun g hg => .inl hg)⟩
        rw [← HQ2.out]
        have hOR : Off (fun g => g = w.heap.size + 1 + 1) (.slice a n c) := HO5.out.mono (fun g hg => by right; omega)
        repeat (with_reducible refine EntsAt.put ?_ hOR _ _)
        exact HE5.out
      · repeat (with_reducible refine Below.setCell ?_ (by show w.heap.size ≤ w.heap.size + 1 + 1; omega) _)
        exact HW5.out
  · have cE : ∀ w0, EntsAt w0 (.slice aa nn cc) s.kept ∧ w0 = wb → Calls Try.prog 90 #[.agg #[.int .i64 s.role, .int .i64 s.step, .int .i64 s.sent, .int .i64 s.got, .int .i64 s.prev, .int .i64 s.skip, .int .i64 s.cap, .string (str s.root), .string (str s.out), .string (str s.inn), .int .i64 s.secret, .int .i64 s.peer, .slice aa nn cc], .agg #[.int .i64 l.step, .int .i64 l.count, .int .i64 l.prev, .int .i64 l.pub, .string (str l.head), .string (str l.body)]] w0 fun e w' => e = .returned (.tuple #[.string ⟨#[]⟩, .agg #[.int .i64 0, .int .i64 0, .int .i64 0, .int .i64 0, .int .i64 0, .int .i64 0, .int .i64 0, .string ⟨#[]⟩, .string ⟨#[]⟩, .string ⟨#[]⟩, .int .i64 0, .int .i64 0, .slice none 0 0], .int .i64 (oldR s l).1]) ∧ Below w0.heap.size w0 w' := by
      intro w0 hE
      refine (cd w0 hE).mono ?_
      rintro e w' ⟨q, hw⟩
      rcases q with ⟨_, q⟩ | ⟨q, _⟩
      · exact ⟨q, hw⟩
      · exact absurd q hr0
    have HR0 : Hid ((oldR s l).1 ≠ 0) := hr0; clear cd hr0
    obtain ⟨er, her⟩ : ∃ er, er = (oldR s l).1 := ⟨_, rfl⟩
    rw [← her] at cE
    have HER : Hid (er = (oldR s l).1) := her; clear her
    go_wp2_with (first | (go_at_call 90; (with_reducible refine (cE _ HE.out).mono ?_); rintro e w5 ⟨rfl, hb5⟩; have hR5 := (hb5.block (w.heap.size + 1 + 1) hlt4).trans HR.out; have hlt2 : w.heap.size + 1 + 1 < w5.heap.size := Nat.lt_of_lt_of_le hlt4 hb5.size; have HW5 : Hid (Below w.heap.size w w5) := below_tr HW.out hb5; obtain ⟨a0, a1, a2, a3, a4, a5, a6, a7, a8, a9, a10, a11, a12⟩ := cells13 hR5; have fA : ∀ j, w5.frozen? ⟨w.heap.size + 1 + 1, j, none⟩ = false := fun j => frozen_of_row w5 _ j _ _ hR5; clear hR5 hb5))
    (try simp only [Exit.inBlock, Exit.then])
    refine bodyPost_ret (v := .tuple #[.string ⟨#[]⟩, .agg #[.int .i64 0, .int .i64 0, .int .i64 0, .int .i64 0, .int .i64 0, .int .i64 0, .int .i64 0, .string ⟨#[]⟩, .string ⟨#[]⟩, .string ⟨#[]⟩, .int .i64 0, .int .i64 0, .slice none 0 0], .int .i64 er]) ?_ ?_ ?_
    · rw [results_tct (fn := Try.f67) rfl]; simp [go_sem, a0, a1, a2, a3, a4, a5, a6, a7, a8, a9, a10, a11, a12]
    · rfl
    · refine ⟨?_, ?_⟩
      · rw [HQ.out]
        exact .inl ⟨HR0.out, by rw [HER.out]⟩
      · repeat (with_reducible refine Below.setCell ?_ (by show w.heap.size ≤ w.heap.size + 1 + 1; omega) _)
        exact HW5.out
theorem keyOf_oldB (s : StM) (aa : Option Addr) (nn cc : Nat) (l : LetM) (draw : Nat) (A : Nat → Prop) (w : World) (h255 : s.step ≤ 255) (hls : l.step ≤ 254) (hc : l.count ≤ 254) (hpv : l.prev ≤ 150) (hl : s.kept.length ≤ 100) (hin : s.inn.length = 8) (hroot : s.root.length = 8) (hs : s.secret < 2147483647) (hp : l.pub < 2147483647) (hd : draw < 2147483647) (hv : EntsAt w (.slice aa nn cc) s.kept) (ho : Off A (.slice aa nn cc)) (hA : ∀ g, A g → g < w.heap.size) (hx : ¬ (s.step + 1 < l.step ∨ l.step % 2 = s.step % 2)) (h1 : ¬ l.step = s.step + 1) (h2 : l.step + 1 = s.step) (h3 : ¬ s.got ≤ l.count) :
    Calls Try.prog 67 #[.agg #[.int .i64 s.role, .int .i64 s.step, .int .i64 s.sent, .int .i64 s.got, .int .i64 s.prev, .int .i64 s.skip, .int .i64 s.cap, .string (str s.root), .string (str s.out), .string (str s.inn), .int .i64 s.secret, .int .i64 s.peer, .slice aa nn cc], .agg #[.int .i64 l.step, .int .i64 l.count, .int .i64 l.prev, .int .i64 l.pub, .string (str l.head), .string (str l.body)], .int .i64 draw] w fun e w' => TakeOut (keyR s l draw) A w' e ∧ Below w.heap.size w w' := by
  have HA : Hid (∀ g, A g → g < w.heap.size) := hA
  have HQ : Hid (keyR s l draw = (oldR s l)) := by
    show _ = _
    rw [keyR, if_neg hx, if_neg h1, if_neg (fun q => h3 q.2)]
  have H2 : Hid (l.step + 1 = s.step) := h2; clear h2
  go_enter Try.func67, Try.ntmps67
  go_upto_region 1 with fail
  obtain ⟨wb, ewb, hB, hL, hR, hW, hlt⟩ := alloc3e w (.cells #[.int .i64 s.role, .int .i64 s.step, .int .i64 s.sent, .int .i64 s.got, .int .i64 s.prev, .int .i64 s.skip, .int .i64 s.cap, .string (str s.root), .string (str s.out), .string (str s.inn), .int .i64 s.secret, .int .i64 s.peer, .slice aa nn cc] 84) (.cells #[.int .i64 l.step, .int .i64 l.count, .int .i64 l.prev, .int .i64 l.pub, .string (str l.head), .string (str l.body)] 96) (.cells #[.int .i64 0, .int .i64 0, .int .i64 0, .int .i64 0, .int .i64 0, .int .i64 0, .int .i64 0, .string ⟨#[]⟩, .string ⟨#[]⟩, .string ⟨#[]⟩, .int .i64 0, .int .i64 0, .slice none 0 0] 84); rw [← ewb]; clear ewb; have HB := hid hB; have HL := hid hL; have HR := hid hR; have HW := hid hW; obtain ⟨k0, k1, k2, k3, k4, k5, k6, k7, k8, k9, k10, k11, k12⟩ := cells13 hB; obtain ⟨q0, q1, q2, q3, q4, q5⟩ := cells6 hL; have h2 := H2.out
  have h1s : 1 ≤ s.step := by omega
  have i1 : ¬ (s.step : Int) + 1 < (l.step : Int) := by omega
  have i2 : ¬ (l.step : Int) % 2 = (s.step : Int) % 2 := by omega
  have i4 : ¬ (l.step : Int) = (s.step : Int) + 1 := by omega
  have i5 : ((l.step : Int) == (s.step : Int) - 1) = true := by rw [beq_iff_eq]; omega
  have i6 : ¬ (s.got : Int) ≤ (l.count : Int) := by omega
  clear hx h2; have hOw : Off (With A w.heap.size (w.heap.size + 1 + 1 + 1)) (.slice aa nn cc) := ho.with hv _
  have cd : ∀ w0, EntsAt w0 (.slice aa nn cc) s.kept ∧ w0 = wb → Calls Try.prog 90 #[.agg #[.int .i64 s.role, .int .i64 s.step, .int .i64 s.sent, .int .i64 s.got, .int .i64 s.prev, .int .i64 s.skip, .int .i64 s.cap, .string (str s.root), .string (str s.out), .string (str s.inn), .int .i64 s.secret, .int .i64 s.peer, .slice aa nn cc], .agg #[.int .i64 l.step, .int .i64 l.count, .int .i64 l.prev, .int .i64 l.pub, .string (str l.head), .string (str l.body)]] w0 fun e w' => TakeOut (oldR s l) (With A w.heap.size (w.heap.size + 1 + 1 + 1)) w' e ∧ Below w0.heap.size w0 w' := by
    rintro w0 ⟨hE0, hw0⟩
    rw [hw0] at hE0 ⊢
    exact old_any s aa nn cc l (With A w.heap.size (w.heap.size + 1 + 1 + 1)) wb (by omega) hE0 hOw (fun g hg => by rcases hg with hg | hg; (have := HA.out g hg; omega); omega)
  have HE : Hid (EntsAt wb (.slice aa nn cc) s.kept ∧ wb = wb) := ⟨hv.next hW, rfl⟩
  have hlt4 : w.heap.size + 1 + 1 < wb.heap.size := by omega
  clear hB hL hR hW hv ho hA HB HL hOw
  by_cases hr0 : (oldR s l).1 = 0
  · have cO : ∀ w0, EntsAt w0 (.slice aa nn cc) s.kept ∧ w0 = wb → Calls Try.prog 90 #[.agg #[.int .i64 s.role, .int .i64 s.step, .int .i64 s.sent, .int .i64 s.got, .int .i64 s.prev, .int .i64 s.skip, .int .i64 s.cap, .string (str s.root), .string (str s.out), .string (str s.inn), .int .i64 s.secret, .int .i64 s.peer, .slice aa nn cc], .agg #[.int .i64 l.step, .int .i64 l.count, .int .i64 l.prev, .int .i64 l.pub, .string (str l.head), .string (str l.body)]] w0 fun e w' => (∃ (a : Option Addr) (n c : Nat), e = .returned (.tuple #[.string (str (oldR s l).2.1), .agg (stCells (oldR s l).2.2 (.slice a n c)), .int .i64 0]) ∧ EntsAt w' (.slice a n c) (oldR s l).2.2.kept ∧ Off (With A w.heap.size (w.heap.size + 1 + 1 + 1)) (.slice a n c)) ∧ Below w0.heap.size w0 w' := by
      intro w0 hE
      refine (cd w0 hE).mono ?_
      rintro e w' ⟨q, hw⟩
      rcases q with ⟨q, _⟩ | ⟨_, q⟩
      · exact absurd hr0 q
      · exact ⟨q, hw⟩
    have HR0 : Hid ((oldR s l).1 = 0) := hr0
    obtain ⟨q, hq2⟩ : ∃ q, q = (oldR s l).2.2 := ⟨_, rfl⟩
    obtain ⟨ky, hky⟩ : ∃ ky, ky = str (oldR s l).2.1 := ⟨_, rfl⟩
    unfold stCells at cO
    rw [← hq2, ← hky] at cO
    have HQ2 : Hid (q = (oldR s l).2.2) := hq2; have HKY : Hid (ky = str (oldR s l).2.1) := hky; clear cd hr0 hq2 hky
    go_wp2_with (first | (go_at_call 90; (with_reducible refine (cO _ HE.out).mono ?_); rintro e w5 ⟨⟨a, n, c, rfl, hE5, hO5⟩, hb5⟩; have HE5 := hid hE5; have HO5 := hid hO5; clear hE5 hO5; have hR5 := (hb5.block (w.heap.size + 1 + 1) hlt4).trans HR.out; have hlt2 : w.heap.size + 1 + 1 < w5.heap.size := Nat.lt_of_lt_of_le hlt4 hb5.size; have HW5 : Hid (Below w.heap.size w w5) := below_tr HW.out hb5; obtain ⟨a0, a1, a2, a3, a4, a5, a6, a7, a8, a9, a10, a11, a12⟩ := cells13 hR5; have fA : ∀ j, w5.frozen? ⟨w.heap.size + 1 + 1, j, none⟩ = false := fun j => frozen_of_row w5 _ j _ _ hR5; clear hR5 hb5))
    (try simp only [Exit.inBlock, Exit.then])
    refine bodyPost_ret (v := .tuple #[.string ky, .agg #[.int .i64 q.role, .int .i64 q.step, .int .i64 q.sent, .int .i64 q.got, .int .i64 q.prev, .int .i64 q.skip, .int .i64 q.cap, .string (str q.root), .string (str q.out), .string (str q.inn), .int .i64 q.secret, .int .i64 q.peer, .slice a n c], .int .i64 0]) ?_ ?_ ?_
    · rw [results_tct (fn := Try.f67) rfl]; simp [go_sem, a0, a1, a2, a3, a4, a5, a6, a7, a8, a9, a10, a11, a12]
    · rfl
    · refine ⟨?_, ?_⟩
      · rw [HQ.out]
        refine .inr ⟨HR0.out, a, n, c, by rw [← HQ2.out, ← HKY.out]; rfl, ?_, HO5.out.mono (fun g hg => .inl hg)⟩
        rw [← HQ2.out]
        have hOR : Off (fun g => g = w.heap.size + 1 + 1) (.slice a n c) := HO5.out.mono (fun g hg => by right; omega)
        repeat (with_reducible refine EntsAt.put ?_ hOR _ _)
        exact HE5.out
      · repeat (with_reducible refine Below.setCell ?_ (by show w.heap.size ≤ w.heap.size + 1 + 1; omega) _)
        exact HW5.out
  · have cE : ∀ w0, EntsAt w0 (.slice aa nn cc) s.kept ∧ w0 = wb → Calls Try.prog 90 #[.agg #[.int .i64 s.role, .int .i64 s.step, .int .i64 s.sent, .int .i64 s.got, .int .i64 s.prev, .int .i64 s.skip, .int .i64 s.cap, .string (str s.root), .string (str s.out), .string (str s.inn), .int .i64 s.secret, .int .i64 s.peer, .slice aa nn cc], .agg #[.int .i64 l.step, .int .i64 l.count, .int .i64 l.prev, .int .i64 l.pub, .string (str l.head), .string (str l.body)]] w0 fun e w' => e = .returned (.tuple #[.string ⟨#[]⟩, .agg #[.int .i64 0, .int .i64 0, .int .i64 0, .int .i64 0, .int .i64 0, .int .i64 0, .int .i64 0, .string ⟨#[]⟩, .string ⟨#[]⟩, .string ⟨#[]⟩, .int .i64 0, .int .i64 0, .slice none 0 0], .int .i64 (oldR s l).1]) ∧ Below w0.heap.size w0 w' := by
      intro w0 hE
      refine (cd w0 hE).mono ?_
      rintro e w' ⟨q, hw⟩
      rcases q with ⟨_, q⟩ | ⟨q, _⟩
      · exact ⟨q, hw⟩
      · exact absurd q hr0
    have HR0 : Hid ((oldR s l).1 ≠ 0) := hr0; clear cd hr0
    obtain ⟨er, her⟩ : ∃ er, er = (oldR s l).1 := ⟨_, rfl⟩
    rw [← her] at cE
    have HER : Hid (er = (oldR s l).1) := her; clear her
    go_wp2_with (first | (go_at_call 90; (with_reducible refine (cE _ HE.out).mono ?_); rintro e w5 ⟨rfl, hb5⟩; have hR5 := (hb5.block (w.heap.size + 1 + 1) hlt4).trans HR.out; have hlt2 : w.heap.size + 1 + 1 < w5.heap.size := Nat.lt_of_lt_of_le hlt4 hb5.size; have HW5 : Hid (Below w.heap.size w w5) := below_tr HW.out hb5; obtain ⟨a0, a1, a2, a3, a4, a5, a6, a7, a8, a9, a10, a11, a12⟩ := cells13 hR5; have fA : ∀ j, w5.frozen? ⟨w.heap.size + 1 + 1, j, none⟩ = false := fun j => frozen_of_row w5 _ j _ _ hR5; clear hR5 hb5))
    (try simp only [Exit.inBlock, Exit.then])
    refine bodyPost_ret (v := .tuple #[.string ⟨#[]⟩, .agg #[.int .i64 0, .int .i64 0, .int .i64 0, .int .i64 0, .int .i64 0, .int .i64 0, .int .i64 0, .string ⟨#[]⟩, .string ⟨#[]⟩, .string ⟨#[]⟩, .int .i64 0, .int .i64 0, .slice none 0 0], .int .i64 er]) ?_ ?_ ?_
    · rw [results_tct (fn := Try.f67) rfl]; simp [go_sem, a0, a1, a2, a3, a4, a5, a6, a7, a8, a9, a10, a11, a12]
    · rfl
    · refine ⟨?_, ?_⟩
      · rw [HQ.out]
        exact .inl ⟨HR0.out, by rw [HER.out]⟩
      · repeat (with_reducible refine Below.setCell ?_ (by show w.heap.size ≤ w.heap.size + 1 + 1; omega) _)
        exact HW5.out
theorem talkKeyOf_any (s : StM) (aa : Option Addr) (nn cc : Nat) (l : LetM) (draw : Nat) (A : Nat → Prop) (w : World) (h255 : s.step ≤ 255) (hls : l.step ≤ 254) (hc : l.count ≤ 254) (hpv : l.prev ≤ 150) (hl : s.kept.length ≤ 100) (hin : s.inn.length = 8) (hroot : s.root.length = 8) (hs : s.secret < 2147483647) (hp : l.pub < 2147483647) (hd : draw < 2147483647) (hv : EntsAt w (.slice aa nn cc) s.kept) (ho : Off A (.slice aa nn cc)) (hA : ∀ g, A g → g < w.heap.size) :
    Calls Try.prog 67 #[.agg #[.int .i64 s.role, .int .i64 s.step, .int .i64 s.sent, .int .i64 s.got, .int .i64 s.prev, .int .i64 s.skip, .int .i64 s.cap, .string (str s.root), .string (str s.out), .string (str s.inn), .int .i64 s.secret, .int .i64 s.peer, .slice aa nn cc], .agg #[.int .i64 l.step, .int .i64 l.count, .int .i64 l.prev, .int .i64 l.pub, .string (str l.head), .string (str l.body)], .int .i64 draw] w fun e w' => TakeOut (keyR s l draw) A w' e ∧ Below w.heap.size w w' := by
  by_cases hx : s.step + 1 < l.step ∨ l.step % 2 = s.step % 2
  · by_cases hf : s.step + 1 < l.step
    · exact keyOf_far s aa nn cc l draw A w h255 hls hc hpv hl hin hroot hs hp hd hv ho hA hx hf
    · exact keyOf_par s aa nn cc l draw A w h255 hls hc hpv hl hin hroot hs hp hd hv ho hA hx hf
  · by_cases h1 : l.step = s.step + 1
    · exact keyOf_turn s aa nn cc l draw A w h255 hls hc hpv hl hin hroot hs hp hd hv ho hA hx h1
    · by_cases h2 : l.step + 1 = s.step
      · by_cases h3 : s.got ≤ l.count
        · exact keyOf_due s aa nn cc l draw A w h255 hls hc hpv hl hin hroot hs hp hd hv ho hA hx h1 h2 h3
        · exact keyOf_oldB s aa nn cc l draw A w h255 hls hc hpv hl hin hroot hs hp hd hv ho hA hx h1 h2 h3
      · exact keyOf_oldA s aa nn cc l draw A w h255 hls hc hpv hl hin hroot hs hp hd hv ho hA hx h1 h2
end Go.Proofs.Ytabpkohcimiceab
