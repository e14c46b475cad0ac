import Derived.Test.YtabpkohcimiceabKeptC
import Derived.Test.YtabpkohcimiceabLink
import Derived.RegionTactic
namespace Go.Proofs.Ytabpkohcimiceab
set_option maxRecDepth 100000
set_option maxHeartbeats 1000000
open Go.RowKit
set_option linter.unusedVariables false
set_option linter.unusedSimpArgs false
theorem alloc3 (w : World) (a b c : Obj) : (((w.alloc a).alloc b).alloc c).heap[w.heap.size]? = some a ∧ (((w.alloc a).alloc b).alloc c).heap[w.heap.size + 1]? = some b ∧ (((w.alloc a).alloc b).alloc c).heap[w.heap.size + 1 + 1]? = some c ∧ Below w.heap.size w (((w.alloc a).alloc b).alloc c) ∧ (((w.alloc a).alloc b).alloc c).heap.size = w.heap.size + 1 + 1 + 1 := by
  refine ⟨((Below.heap_alloc _ _ _ (by simp; omega)).trans (Below.heap_alloc _ _ _ (by simp))).trans (heap_alloc_new w _), ?_, ?_, (((Below.refl _ _).alloc (Nat.le_refl _) _).alloc (by simp) _).alloc (by simp; omega) _, by simp⟩
  · refine (Below.heap_alloc _ _ _ (by simp)).trans ?_
    have := heap_alloc_new (w.alloc a) b
    have e : (w.alloc a).heap.size = w.heap.size + 1 := by simp
    rw [e] at this
    exact this
  · have := heap_alloc_new ((w.alloc a).alloc b) c
    have e : ((w.alloc a).alloc b).heap.size = w.heap.size + 1 + 1 := by simp
    rw [e] at this
    exact this
theorem alloc3e (w : World) (a b c : Obj) : ∃ wb, wb = ((w.alloc a).alloc b).alloc c ∧ wb.heap[w.heap.size]? = some a ∧ wb.heap[w.heap.size + 1]? = some b ∧ wb.heap[w.heap.size + 1 + 1]? = some c ∧ Below w.heap.size w wb ∧ wb.heap.size = w.heap.size + 1 + 1 + 1 := ⟨_, rfl, alloc3 w a b c⟩
def Off (A : Nat → Prop) (v : Value) : Prop := ∀ g o n c, v = .slice (some ⟨g, o, none⟩) n c → ¬ A g
theorem Off.own {A : Nat → Prop} {w : World} {base n : Nat} {e : TypeId} {v : Value} {xs : List Value} (h : w.ownsRow base e 3 v n xs) (hA : ∀ g, A g → g < base) : Off A v := by
  intro g o m c hv ha
  rcases h.2 with ⟨h1, _⟩ | ⟨g', cap, cur, h1, h2, _⟩
  · rw [h1] at hv; cases hv
  · rw [h1] at hv
    injection hv with q1 q2 q3
    injection q1 with q1
    injection q1 with q1 q2
    subst q1
    have := hA _ ha
    omega
theorem ownsK_form {w : World} {base n : Nat} {e : TypeId} {v : Value} {xs : List Value} (h : w.ownsRow base e 3 v n xs) : ∃ a m c, v = .slice a m c := by
  rcases h.2 with ⟨h1, _⟩ | ⟨g, cap, _, h1, _⟩
  · exact ⟨Option.none, 0, 0, h1⟩
  · exact ⟨_, _, _, h1⟩
theorem Off.none (A : Nat → Prop) (n c : Nat) : Off A (.slice none n c) := by intro g o n c h; cases h
theorem EntsAt.set {A : Nat → Prop} {w : World} {v : Value} {l : List EntM} (h : EntsAt w v l) (ho : Off A v) {b i : Nat} (hb : A b) (x : Value) : EntsAt (w.setCell ⟨b, i, none⟩ x) v l := by
  rcases h with h | ⟨g, cap, h1, h2, h3, h4⟩
  · exact .inl h
  · have hg : g ≠ b := fun e => ho g 0 _ _ h1 (by rw [e]; exact hb)
    have f : ∀ j y, w.cell? ⟨g, j, none⟩ = some y → (w.setCell ⟨b, i, none⟩ x).cell? ⟨g, j, none⟩ = some y := fun j y hy => (World.cell?_setCell_far w _ _ _ (fun e => hg e.symm)).trans hy
    refine .inr ⟨g, cap, h1, h2, by rw [World.size_setCell]; exact h3, fun j hj => ?_⟩
    obtain ⟨a, b', c⟩ := h4 j hj; exact ⟨f _ _ a, f _ _ b', f _ _ c⟩
theorem wrap_i64 (x : Int) (h0 : -9223372036854775808 ≤ x) (h1 : x ≤ 9223372036854775807) : IntKind.i64.wrap x = x := by
  show (if (true && decide (x % 2 ^ 64 ≥ 2 ^ 63)) = true then x % 2 ^ 64 - 2 ^ 64 else x % 2 ^ 64) = x
  by_cases h : x % 2 ^ 64 ≥ 2 ^ 63
  · rw [if_pos (by simp; omega)]; omega
  · rw [if_neg (by simp; omega)]; omega
theorem passS_id (s : StM) (count : Nat) (h : count ≤ s.got) : passS s count = s := by
  rw [passS, show count - s.got = 0 by omega, Nat.add_zero]
  show ({ s with got := s.got, inn := s.inn, kept := s.kept ++ [] } : StM) = s
  rw [List.append_nil]
theorem pass_same (s : StM) (aa : Option Addr) (nn cc : Nat) (count : Nat) (w : World) (h : count ≤ s.got) :
    Calls Try.prog 97 #[.agg #[.int .i64 s.role, .int .i64 s.step, .int .i64 s.sent, .int .i64 s.got, .int .i64 s.prev, .int .i64 s.skip, .int .i64 s.cap, .string (str s.root), .string (str s.out), .string (str s.inn), .int .i64 s.secret, .int .i64 s.peer, .slice aa nn cc], .int .i64 count] w fun e w' => e = .returned (.tuple #[.agg #[.int .i64 s.role, .int .i64 s.step, .int .i64 s.sent, .int .i64 s.got, .int .i64 s.prev, .int .i64 s.skip, .int .i64 s.cap, .string (str s.root), .string (str s.out), .string (str s.inn), .int .i64 s.secret, .int .i64 s.peer, .slice aa nn cc], .bool true]) ∧ Below w.heap.size w w' := by
  have hI : (count : Int) ≤ (s.got : Int) := by omega
  go_enter Try.func97, Try.ntmps97
  go_upto_region 1 with fail
  have hB : ((w.alloc (.cells #[.int .i64 s.role, .int .i64 s.step, .int .i64 s.sent, .int .i64 s.got, .int .i64 s.prev, .int .i64 s.skip, .int .i64 s.cap, .string (str s.root), .string (str s.out), .string (str s.inn), .int .i64 s.secret, .int .i64 s.peer, .slice aa nn cc] 84)).alloc (.cells #[.int .i64 0, .int .i64 0, .int .i64 0, .int .i64 0, .int .i64 0, .int .i64 0, .int .i64 0, .string ⟨#[]⟩, .string ⟨#[]⟩, .string ⟨#[]⟩, .int .i64 0, .int .i64 0, .slice none 0 0] 84)).heap[w.heap.size]? = some (.cells #[.int .i64 s.role, .int .i64 s.step, .int .i64 s.sent, .int .i64 s.got, .int .i64 s.prev, .int .i64 s.skip, .int .i64 s.cap, .string (str s.root), .string (str s.out), .string (str s.inn), .int .i64 s.secret, .int .i64 s.peer, .slice aa nn cc] 84) := (Below.heap_alloc _ _ _ (by simp)).trans (heap_alloc_new w _)
  have hR : ((w.alloc (.cells #[.int .i64 s.role, .int .i64 s.step, .int .i64 s.sent, .int .i64 s.got, .int .i64 s.prev, .int .i64 s.skip, .int .i64 s.cap, .string (str s.root), .string (str s.out), .string (str s.inn), .int .i64 s.secret, .int .i64 s.peer, .slice aa nn cc] 84)).alloc (.cells #[.int .i64 0, .int .i64 0, .int .i64 0, .int .i64 0, .int .i64 0, .int .i64 0, .int .i64 0, .string ⟨#[]⟩, .string ⟨#[]⟩, .string ⟨#[]⟩, .int .i64 0, .int .i64 0, .slice none 0 0] 84)).heap[w.heap.size + 1]? = some (.cells #[.int .i64 0, .int .i64 0, .int .i64 0, .int .i64 0, .int .i64 0, .int .i64 0, .int .i64 0, .string ⟨#[]⟩, .string ⟨#[]⟩, .string ⟨#[]⟩, .int .i64 0, .int .i64 0, .slice none 0 0] 84) := by
    have := heap_alloc_new (w.alloc (.cells #[.int .i64 s.role, .int .i64 s.step, .int .i64 s.sent, .int .i64 s.got, .int .i64 s.prev, .int .i64 s.skip, .int .i64 s.cap, .string (str s.root), .string (str s.out), .string (str s.inn), .int .i64 s.secret, .int .i64 s.peer, .slice aa nn cc] 84)) (.cells #[.int .i64 0, .int .i64 0, .int .i64 0, .int .i64 0, .int .i64 0, .int .i64 0, .int .i64 0, .string ⟨#[]⟩, .string ⟨#[]⟩, .string ⟨#[]⟩, .int .i64 0, .int .i64 0, .slice none 0 0] 84)
    simpa using this
  have hW : Below w.heap.size w ((w.alloc (.cells #[.int .i64 s.role, .int .i64 s.step, .int .i64 s.sent, .int .i64 s.got, .int .i64 s.prev, .int .i64 s.skip, .int .i64 s.cap, .string (str s.root), .string (str s.out), .string (str s.inn), .int .i64 s.secret, .int .i64 s.peer, .slice aa nn cc] 84)).alloc (.cells #[.int .i64 0, .int .i64 0, .int .i64 0, .int .i64 0, .int .i64 0, .int .i64 0, .int .i64 0, .string ⟨#[]⟩, .string ⟨#[]⟩, .string ⟨#[]⟩, .int .i64 0, .int .i64 0, .slice none 0 0] 84)) := ((Below.refl _ _).alloc (Nat.le_refl _) _).alloc (by simp) _
  have hlt : ((w.alloc (.cells #[.int .i64 s.role, .int .i64 s.step, .int .i64 s.sent, .int .i64 s.got, .int .i64 s.prev, .int .i64 s.skip, .int .i64 s.cap, .string (str s.root), .string (str s.out), .string (str s.inn), .int .i64 s.secret, .int .i64 s.peer, .slice aa nn cc] 84)).alloc (.cells #[.int .i64 0, .int .i64 0, .int .i64 0, .int .i64 0, .int .i64 0, .int .i64 0, .int .i64 0, .string ⟨#[]⟩, .string ⟨#[]⟩, .string ⟨#[]⟩, .int .i64 0, .int .i64 0, .slice none 0 0] 84)).heap.size = w.heap.size + 1 + 1 := by simp
  generalize ((w.alloc (.cells #[.int .i64 s.role, .int .i64 s.step, .int .i64 s.sent, .int .i64 s.got, .int .i64 s.prev, .int .i64 s.skip, .int .i64 s.cap, .string (str s.root), .string (str s.out), .string (str s.inn), .int .i64 s.secret, .int .i64 s.peer, .slice aa nn cc] 84)).alloc (.cells #[.int .i64 0, .int .i64 0, .int .i64 0, .int .i64 0, .int .i64 0, .int .i64 0, .int .i64 0, .string ⟨#[]⟩, .string ⟨#[]⟩, .string ⟨#[]⟩, .int .i64 0, .int .i64 0, .slice none 0 0] 84)) = wb at hB hR hW hlt ⊢
  have HB := hid hB; have HR := hid hR; have HW := hid hW; obtain ⟨k0, k1, k2, k3, k4, k5, k6, k7, k8, k9, k10, k11, k12⟩ := cells13 hB; obtain ⟨a0, a1, a2, a3, a4, a5, a6, a7, a8, a9, a10, a11, a12⟩ := cells13 hR
  have fA : ∀ j, wb.frozen? ⟨w.heap.size + 1, j, none⟩ = false := fun j => frozen_of_row wb _ j _ _ hR
  clear hB hR hW HB HR hlt; go_wp2
  (try simp only [Exit.inBlock, Exit.then])
  refine bodyPost_ret (v := .tuple #[.agg #[.int .i64 s.role, .int .i64 s.step, .int .i64 s.sent, .int .i64 s.got, .int .i64 s.prev, .int .i64 s.skip, .int .i64 s.cap, .string (str s.root), .string (str s.out), .string (str s.inn), .int .i64 s.secret, .int .i64 s.peer, .slice aa nn cc], .bool true]) ?_ ?_ ?_
  · rw [results_cell_tmp (fn := Try.f97) rfl]; simp [go_sem, a0, a1, a2, a3, a4, a5, a6, a7, a8, a9, a10, a11, a12]
  · rfl
  · refine ⟨rfl, ?_⟩
    repeat (with_reducible refine Below.setCell ?_ (by exact Nat.le_succ _) _)
    exact HW.out
theorem pass_bad (s : StM) (aa : Option Addr) (nn cc : Nat) (count : Nat) (w : World) (h1 : 1 ≤ s.step) (h255 : s.step ≤ 255) (hc : count ≤ 255) (hl : s.kept.length ≤ 255) (hv : EntsAt w (.slice aa nn cc) s.kept) (h : skipBad s count) :
    Calls Try.prog 97 #[.agg #[.int .i64 s.role, .int .i64 s.step, .int .i64 s.sent, .int .i64 s.got, .int .i64 s.prev, .int .i64 s.skip, .int .i64 s.cap, .string (str s.root), .string (str s.out), .string (str s.inn), .int .i64 s.secret, .int .i64 s.peer, .slice aa nn cc], .int .i64 count] w fun e w' => e = .returned (.tuple #[.agg #[.int .i64 0, .int .i64 0, .int .i64 0, .int .i64 0, .int .i64 0, .int .i64 0, .int .i64 0, .string ⟨#[]⟩, .string ⟨#[]⟩, .string ⟨#[]⟩, .int .i64 0, .int .i64 0, .slice none 0 0], .bool false]) ∧ Below w.heap.size w w' := by
  obtain ⟨hg, hs⟩ := h
  have hI : ¬ (count : Int) ≤ (s.got : Int) := by omega
  obtain ⟨sp, hsp⟩ : ∃ sp, sp = s.step - 1 := ⟨_, rfl⟩
  have hst : (s.step : Int) - 1 = (sp : Int) := by omega
  have hsp2 : sp ≤ 255 := by omega
  have co := fun w hv => ofStep_any s.kept (.slice aa nn cc) sp w hv (by omega)
  have hol := ofL_le s.kept sp
  (try rw [← hsp] at hs)
  have hb : (s.skip : Int) < (ofL s.kept sp : Int) + (count : Int) - (s.got : Int) := by omega
  go_enter Try.func97, Try.ntmps97
  go_upto_region 1 with fail
  have hB : ((w.alloc (.cells #[.int .i64 s.role, .int .i64 s.step, .int .i64 s.sent, .int .i64 s.got, .int .i64 s.prev, .int .i64 s.skip, .int .i64 s.cap, .string (str s.root), .string (str s.out), .string (str s.inn), .int .i64 s.secret, .int .i64 s.peer, .slice aa nn cc] 84)).alloc (.cells #[.int .i64 0, .int .i64 0, .int .i64 0, .int .i64 0, .int .i64 0, .int .i64 0, .int .i64 0, .string ⟨#[]⟩, .string ⟨#[]⟩, .string ⟨#[]⟩, .int .i64 0, .int .i64 0, .slice none 0 0] 84)).heap[w.heap.size]? = some (.cells #[.int .i64 s.role, .int .i64 s.step, .int .i64 s.sent, .int .i64 s.got, .int .i64 s.prev, .int .i64 s.skip, .int .i64 s.cap, .string (str s.root), .string (str s.out), .string (str s.inn), .int .i64 s.secret, .int .i64 s.peer, .slice aa nn cc] 84) := (Below.heap_alloc _ _ _ (by simp)).trans (heap_alloc_new w _)
  have hR : ((w.alloc (.cells #[.int .i64 s.role, .int .i64 s.step, .int .i64 s.sent, .int .i64 s.got, .int .i64 s.prev, .int .i64 s.skip, .int .i64 s.cap, .string (str s.root), .string (str s.out), .string (str s.inn), .int .i64 s.secret, .int .i64 s.peer, .slice aa nn cc] 84)).alloc (.cells #[.int .i64 0, .int .i64 0, .int .i64 0, .int .i64 0, .int .i64 0, .int .i64 0, .int .i64 0, .string ⟨#[]⟩, .string ⟨#[]⟩, .string ⟨#[]⟩, .int .i64 0, .int .i64 0, .slice none 0 0] 84)).heap[w.heap.size + 1]? = some (.cells #[.int .i64 0, .int .i64 0, .int .i64 0, .int .i64 0, .int .i64 0, .int .i64 0, .int .i64 0, .string ⟨#[]⟩, .string ⟨#[]⟩, .string ⟨#[]⟩, .int .i64 0, .int .i64 0, .slice none 0 0] 84) := by
    have := heap_alloc_new (w.alloc (.cells #[.int .i64 s.role, .int .i64 s.step, .int .i64 s.sent, .int .i64 s.got, .int .i64 s.prev, .int .i64 s.skip, .int .i64 s.cap, .string (str s.root), .string (str s.out), .string (str s.inn), .int .i64 s.secret, .int .i64 s.peer, .slice aa nn cc] 84)) (.cells #[.int .i64 0, .int .i64 0, .int .i64 0, .int .i64 0, .int .i64 0, .int .i64 0, .int .i64 0, .string ⟨#[]⟩, .string ⟨#[]⟩, .string ⟨#[]⟩, .int .i64 0, .int .i64 0, .slice none 0 0] 84)
    simpa using this
  have hW : Below w.heap.size w ((w.alloc (.cells #[.int .i64 s.role, .int .i64 s.step, .int .i64 s.sent, .int .i64 s.got, .int .i64 s.prev, .int .i64 s.skip, .int .i64 s.cap, .string (str s.root), .string (str s.out), .string (str s.inn), .int .i64 s.secret, .int .i64 s.peer, .slice aa nn cc] 84)).alloc (.cells #[.int .i64 0, .int .i64 0, .int .i64 0, .int .i64 0, .int .i64 0, .int .i64 0, .int .i64 0, .string ⟨#[]⟩, .string ⟨#[]⟩, .string ⟨#[]⟩, .int .i64 0, .int .i64 0, .slice none 0 0] 84)) := ((Below.refl _ _).alloc (Nat.le_refl _) _).alloc (by simp) _
  have hlt : ((w.alloc (.cells #[.int .i64 s.role, .int .i64 s.step, .int .i64 s.sent, .int .i64 s.got, .int .i64 s.prev, .int .i64 s.skip, .int .i64 s.cap, .string (str s.root), .string (str s.out), .string (str s.inn), .int .i64 s.secret, .int .i64 s.peer, .slice aa nn cc] 84)).alloc (.cells #[.int .i64 0, .int .i64 0, .int .i64 0, .int .i64 0, .int .i64 0, .int .i64 0, .int .i64 0, .string ⟨#[]⟩, .string ⟨#[]⟩, .string ⟨#[]⟩, .int .i64 0, .int .i64 0, .slice none 0 0] 84)).heap.size = w.heap.size + 1 + 1 := by simp
  generalize ((w.alloc (.cells #[.int .i64 s.role, .int .i64 s.step, .int .i64 s.sent, .int .i64 s.got, .int .i64 s.prev, .int .i64 s.skip, .int .i64 s.cap, .string (str s.root), .string (str s.out), .string (str s.inn), .int .i64 s.secret, .int .i64 s.peer, .slice aa nn cc] 84)).alloc (.cells #[.int .i64 0, .int .i64 0, .int .i64 0, .int .i64 0, .int .i64 0, .int .i64 0, .int .i64 0, .string ⟨#[]⟩, .string ⟨#[]⟩, .string ⟨#[]⟩, .int .i64 0, .int .i64 0, .slice none 0 0] 84)) = wb at hB hR hW hlt ⊢
  have HB := hid hB; have HR := hid hR; have HW := hid hW; have HV : Hid (EntsAt wb (.slice aa nn cc) s.kept) := hv.next hW; have k1 : wb.cell? ⟨w.heap.size, 1, none⟩ = some (.int .i64 s.step) := cell_of_row wb _ 1 _ _ _ hB; have k3 : wb.cell? ⟨w.heap.size, 3, none⟩ = some (.int .i64 s.got) := cell_of_row wb _ 3 _ _ _ hB; have k5 : wb.cell? ⟨w.heap.size, 5, none⟩ = some (.int .i64 s.skip) := cell_of_row wb _ 5 _ _ _ hB; have k12 : wb.cell? ⟨w.heap.size, 12, none⟩ = some (.slice aa nn cc) := cell_of_row wb _ 12 _ _ _ hB; obtain ⟨a0, a1, a2, a3, a4, a5, a6, a7, a8, a9, a10, a11, a12⟩ := cells13 hR
  have fA : ∀ j, wb.frozen? ⟨w.heap.size + 1, j, none⟩ = false := fun j => frozen_of_row wb _ j _ _ hR
  have hlt' : w.heap.size + 1 < wb.heap.size := by omega
  clear hB hR hW HB HR hv
  generalize ofL s.kept sp = oo at *
  clear hsp
  have hw1 := wrap_i64 ((oo : Int) + (count : Int)) (by omega) (by omega)
  have hw2 := wrap_i64 ((oo : Int) + (count : Int) - (s.got : Int)) (by omega) (by omega)
  go_upto_region 4 with fail
  go_region_held3 (fun w' => w'.cell? ⟨w.heap.size, 12, none⟩ = some (.slice aa nn cc) ∧ w'.cell? ⟨w.heap.size, 3, none⟩ = some (.int .i64 s.got) ∧ w'.cell? ⟨w.heap.size, 5, none⟩ = some (.int .i64 s.skip)) (simp [k12, k3, k5]) (first | (go_at_call 103; go_must (with_reducible refine (co _ (by first | exact HV.out | exact HV.out.next (Below.refl _ _).drew)).mono ?_); rintro e w' ⟨rfl, hw⟩; rw [hw]; clear hw w'))
  go_wp2
  (try simp only [Exit.inBlock, Exit.then])
  refine bodyPost_ret (v := .tuple #[.agg #[.int .i64 0, .int .i64 0, .int .i64 0, .int .i64 0, .int .i64 0, .int .i64 0, .int .i64 0, .string ⟨#[]⟩, .string ⟨#[]⟩, .string ⟨#[]⟩, .int .i64 0, .int .i64 0, .slice none 0 0], .bool false]) ?_ ?_ ?_
  · rw [results_cell_tmp (fn := Try.f97) rfl]; simp [go_sem, a0, a1, a2, a3, a4, a5, a6, a7, a8, a9, a10, a11, a12]
  · rfl
  · refine ⟨rfl, ?_⟩
    repeat (first | (with_reducible refine Below.setCell ?_ (by exact Nat.le_succ _) _) | (with_reducible refine Below.drew ?_) | (with_reducible refine Below.alloc ?_ (by simp; omega) _))
    exact HW.out
theorem pass_ok (s : StM) (aa : Option Addr) (nn cc : Nat) (count : Nat) (w : World) (h1 : 1 ≤ s.step) (h255 : s.step ≤ 255) (hc : count ≤ 255) (hl : s.kept.length ≤ 255) (hin : s.inn.length = 8) (hv : EntsAt w (.slice aa nn cc) s.kept) (hgt : s.got < count) (h : ¬ skipBad s count) :
    Calls Try.prog 97 #[.agg #[.int .i64 s.role, .int .i64 s.step, .int .i64 s.sent, .int .i64 s.got, .int .i64 s.prev, .int .i64 s.skip, .int .i64 s.cap, .string (str s.root), .string (str s.out), .string (str s.inn), .int .i64 s.secret, .int .i64 s.peer, .slice aa nn cc], .int .i64 count] w fun e w' => (∃ (a2 : Option Addr) (n2 c2 : Nat), e = .returned (.tuple #[.agg (stCells (passS s count) (.slice a2 n2 c2)), .bool true]) ∧ w'.ownsRow w.heap.size 142 3 (.slice a2 n2 c2) (passS s count).kept.length (entsCells (passS s count).kept)) ∧ Below w.heap.size w w' := by
  have hs : ¬ s.skip < ofL s.kept (s.step - 1) + (count - s.got) := fun q => h ⟨hgt, q⟩
  obtain ⟨i0, hi0, hz0, hz1, hz2⟩ := info_parts Try.infoKept
  have hI : ¬ (count : Int) ≤ (s.got : Int) := by omega
  obtain ⟨sp, hsp⟩ : ∃ sp, sp = s.step - 1 := ⟨_, rfl⟩
  have hst : (s.step : Int) - 1 = (sp : Int) := by omega
  have hsp2 : sp ≤ 255 := by omega
  have co := fun w hv => ofStep_any s.kept (.slice aa nn cc) sp w hv (by omega)
  have hol := ofL_le s.kept sp
  (try rw [← hsp] at hs)
  have hb : ¬ (s.skip : Int) < (ofL s.kept sp : Int) + (count : Int) - (s.got : Int) := by omega
  have HF : Hid (∀ v, stCells (passS s count) v = #[.int .i64 s.role, .int .i64 s.step, .int .i64 s.sent, .int .i64 ((s.got : Int) + ((count - s.got : Nat) : Int)), .int .i64 s.prev, .int .i64 s.skip, .int .i64 s.cap, .string (str s.root), .string (str s.out), .string (str (chainK s.inn (count - s.got))), .int .i64 s.secret, .int .i64 s.peer, v]) := fun v => by
    show stCells (passS s count) v = _
    rw [passS, stCells]
    simp only [Int.natCast_add]
  have HK : Hid ((passS s count).kept = s.kept ++ spanL s.inn sp s.got (count - s.got)) := by
    show _ = _
    rw [passS, hsp]
  have HKL : Hid ((passS s count).kept.length = s.kept.length + (count - s.got)) := by
    show _ = _
    rw [HK.out, List.length_append, spanL_length]
  have cy := fun w hv => copyOf_any s.kept (.slice aa nn cc) w hv (by omega)
  clear h
  go_enter Try.func97, Try.ntmps97
  go_upto_region 1 with fail
  have hB : ((w.alloc (.cells #[.int .i64 s.role, .int .i64 s.step, .int .i64 s.sent, .int .i64 s.got, .int .i64 s.prev, .int .i64 s.skip, .int .i64 s.cap, .string (str s.root), .string (str s.out), .string (str s.inn), .int .i64 s.secret, .int .i64 s.peer, .slice aa nn cc] 84)).alloc (.cells #[.int .i64 0, .int .i64 0, .int .i64 0, .int .i64 0, .int .i64 0, .int .i64 0, .int .i64 0, .string ⟨#[]⟩, .string ⟨#[]⟩, .string ⟨#[]⟩, .int .i64 0, .int .i64 0, .slice none 0 0] 84)).heap[w.heap.size]? = some (.cells #[.int .i64 s.role, .int .i64 s.step, .int .i64 s.sent, .int .i64 s.got, .int .i64 s.prev, .int .i64 s.skip, .int .i64 s.cap, .string (str s.root), .string (str s.out), .string (str s.inn), .int .i64 s.secret, .int .i64 s.peer, .slice aa nn cc] 84) := (Below.heap_alloc _ _ _ (by simp)).trans (heap_alloc_new w _)
  have hR : ((w.alloc (.cells #[.int .i64 s.role, .int .i64 s.step, .int .i64 s.sent, .int .i64 s.got, .int .i64 s.prev, .int .i64 s.skip, .int .i64 s.cap, .string (str s.root), .string (str s.out), .string (str s.inn), .int .i64 s.secret, .int .i64 s.peer, .slice aa nn cc] 84)).alloc (.cells #[.int .i64 0, .int .i64 0, .int .i64 0, .int .i64 0, .int .i64 0, .int .i64 0, .int .i64 0, .string ⟨#[]⟩, .string ⟨#[]⟩, .string ⟨#[]⟩, .int .i64 0, .int .i64 0, .slice none 0 0] 84)).heap[w.heap.size + 1]? = some (.cells #[.int .i64 0, .int .i64 0, .int .i64 0, .int .i64 0, .int .i64 0, .int .i64 0, .int .i64 0, .string ⟨#[]⟩, .string ⟨#[]⟩, .string ⟨#[]⟩, .int .i64 0, .int .i64 0, .slice none 0 0] 84) := by
    have := heap_alloc_new (w.alloc (.cells #[.int .i64 s.role, .int .i64 s.step, .int .i64 s.sent, .int .i64 s.got, .int .i64 s.prev, .int .i64 s.skip, .int .i64 s.cap, .string (str s.root), .string (str s.out), .string (str s.inn), .int .i64 s.secret, .int .i64 s.peer, .slice aa nn cc] 84)) (.cells #[.int .i64 0, .int .i64 0, .int .i64 0, .int .i64 0, .int .i64 0, .int .i64 0, .int .i64 0, .string ⟨#[]⟩, .string ⟨#[]⟩, .string ⟨#[]⟩, .int .i64 0, .int .i64 0, .slice none 0 0] 84)
    simpa using this
  have hW : Below w.heap.size w ((w.alloc (.cells #[.int .i64 s.role, .int .i64 s.step, .int .i64 s.sent, .int .i64 s.got, .int .i64 s.prev, .int .i64 s.skip, .int .i64 s.cap, .string (str s.root), .string (str s.out), .string (str s.inn), .int .i64 s.secret, .int .i64 s.peer, .slice aa nn cc] 84)).alloc (.cells #[.int .i64 0, .int .i64 0, .int .i64 0, .int .i64 0, .int .i64 0, .int .i64 0, .int .i64 0, .string ⟨#[]⟩, .string ⟨#[]⟩, .string ⟨#[]⟩, .int .i64 0, .int .i64 0, .slice none 0 0] 84)) := ((Below.refl _ _).alloc (Nat.le_refl _) _).alloc (by simp) _
  have hlt : ((w.alloc (.cells #[.int .i64 s.role, .int .i64 s.step, .int .i64 s.sent, .int .i64 s.got, .int .i64 s.prev, .int .i64 s.skip, .int .i64 s.cap, .string (str s.root), .string (str s.out), .string (str s.inn), .int .i64 s.secret, .int .i64 s.peer, .slice aa nn cc] 84)).alloc (.cells #[.int .i64 0, .int .i64 0, .int .i64 0, .int .i64 0, .int .i64 0, .int .i64 0, .int .i64 0, .string ⟨#[]⟩, .string ⟨#[]⟩, .string ⟨#[]⟩, .int .i64 0, .int .i64 0, .slice none 0 0] 84)).heap.size = w.heap.size + 1 + 1 := by simp
  generalize ((w.alloc (.cells #[.int .i64 s.role, .int .i64 s.step, .int .i64 s.sent, .int .i64 s.got, .int .i64 s.prev, .int .i64 s.skip, .int .i64 s.cap, .string (str s.root), .string (str s.out), .string (str s.inn), .int .i64 s.secret, .int .i64 s.peer, .slice aa nn cc] 84)).alloc (.cells #[.int .i64 0, .int .i64 0, .int .i64 0, .int .i64 0, .int .i64 0, .int .i64 0, .int .i64 0, .string ⟨#[]⟩, .string ⟨#[]⟩, .string ⟨#[]⟩, .int .i64 0, .int .i64 0, .slice none 0 0] 84)) = wb at hB hR hW hlt ⊢
  have HB := hid hB; have HR := hid hR; have HW := hid hW; have HV : Hid (EntsAt wb (.slice aa nn cc) s.kept) := hv.next hW; have k1 : wb.cell? ⟨w.heap.size, 1, none⟩ = some (.int .i64 s.step) := cell_of_row wb _ 1 _ _ _ hB; have k3 : wb.cell? ⟨w.heap.size, 3, none⟩ = some (.int .i64 s.got) := cell_of_row wb _ 3 _ _ _ hB; have k5 : wb.cell? ⟨w.heap.size, 5, none⟩ = some (.int .i64 s.skip) := cell_of_row wb _ 5 _ _ _ hB; have k12 : wb.cell? ⟨w.heap.size, 12, none⟩ = some (.slice aa nn cc) := cell_of_row wb _ 12 _ _ _ hB; clear hB hR hW hv
  generalize hoo : ofL s.kept sp = oo at *
  clear hsp hoo
  have hw1 := wrap_i64 ((oo : Int) + (count : Int)) (by omega) (by omega)
  have hw2 := wrap_i64 ((oo : Int) + (count : Int) - (s.got : Int)) (by omega) (by omega)
  go_upto_region 4 with fail
  go_region_held3 (fun w' => w'.cell? ⟨w.heap.size, 12, none⟩ = some (.slice aa nn cc) ∧ w'.cell? ⟨w.heap.size, 3, none⟩ = some (.int .i64 s.got) ∧ w'.cell? ⟨w.heap.size, 5, none⟩ = some (.int .i64 s.skip)) (simp [k12, k3, k5]) (first | (go_at_call 103; go_must (with_reducible refine (co _ (by first | exact HV.out | exact HV.out.next (Below.refl _ _).drew)).mono ?_); rintro e w' ⟨rfl, hw⟩; rw [hw]; clear hw w'))
  go_upto_region 7 with (first | (go_at_call 104; go_loud (refine (cy wb.drew (HV.out.next (Below.refl _ _).drew)).mono ?_); rintro e wr0 ⟨⟨v0, rfl, hv0⟩, hb0⟩; obtain ⟨ax, nx, cx, hvv⟩ := ownsK_form hv0; subst hvv))
  have hb0' : Below wb.heap.size wb wr0 := ⟨hb0.os, hb0.tape, hb0.output, hb0.size, hb0.block⟩
  have hB0 := (hb0'.block w.heap.size (by omega)).trans HB.out
  have hR0 := (hb0'.block (w.heap.size + 1) (by omega)).trans HR.out
  have hW0 := below_tr HW.out hb0'
  have hv0' : wr0.ownsRow (w.heap.size + 1 + 1) 142 3 (.slice ax nx cx) (s.kept.length + 0) (entsCells (s.kept ++ spanL s.inn sp s.got 0)) := by
    show wr0.ownsRow (w.heap.size + 1 + 1) 142 3 (.slice ax nx cx) s.kept.length (entsCells (s.kept ++ []))
    rw [List.append_nil]
    exact ownsRow_base hv0 (by show _ ≤ wb.heap.size; omega)
  have HB0 := hid hB0; clear k1 k3 k5 k12 HB HR HW HV hv0 hb0 hb0' co cy hw1 hw2 hb hB0
  go_loopg [7, 8, 9] 300 (fun gg v x8 x9 wr => ∃ i : Nat, ∃ (a n c : _), v = .slice a n c ∧ i ≤ count - s.got ∧ gg + i = 300 ∧ wr.ownsRow (w.heap.size + 1 + 1) 142 3 (.slice a n c) (s.kept.length + i) (entsCells (s.kept ++ spanL s.inn sp s.got i)) ∧ wr.heap[w.heap.size]? = some (.cells #[.int .i64 s.role, .int .i64 s.step, .int .i64 s.sent, .int .i64 ((s.got : Int) + (i : Int)), .int .i64 s.prev, .int .i64 s.skip, .int .i64 s.cap, .string (str s.root), .string (str s.out), .string (str (chainK s.inn i)), .int .i64 s.secret, .int .i64 s.peer, .slice aa nn cc] 84) ∧ wr.heap[w.heap.size + 1]? = some (.cells #[.int .i64 0, .int .i64 0, .int .i64 0, .int .i64 0, .int .i64 0, .int .i64 0, .int .i64 0, .string ⟨#[]⟩, .string ⟨#[]⟩, .string ⟨#[]⟩, .int .i64 0, .int .i64 0, .slice none 0 0] 84) ∧ Below w.heap.size w wr)
  case atStart =>
    refine ⟨0, ax, nx, cx, rfl, by omega, by omega, hv0', ?_, hR0, hW0⟩
    have := HB0.out
    simpa [chainK] using this
  case round =>
    obtain ⟨i, a, n, c, rfl, hi, hg, hown, hBi, hRi, hWi⟩ := hrel; have hszi := hWi.size
    have hlti : w.heap.size + 1 < wr.heap.size := by
      by_cases q : w.heap.size + 1 < wr.heap.size
      · exact q
      · exfalso
        have : wr.heap[w.heap.size + 1]? = none := by simp; omega
        rw [this] at hRi; cases hRi
    have k3 : wr.cell? ⟨w.heap.size, 3, none⟩ = some (.int .i64 ((s.got : Int) + (i : Int))) := cell_of_row wr _ 3 _ _ _ hBi
    by_cases hlt : i < count - s.got
    · have hcI : (s.got : Int) + (i : Int) < (count : Int) := by omega
      have k9 : wr.cell? ⟨w.heap.size, 9, none⟩ = some (.string (str (chainK s.inn i))) := cell_of_row wr _ 9 _ _ _ hBi
      have cl := fun w => link_any (str (chainK s.inn i)) w (by rw [str_size]; exact chainK_length _ hin i)
      rw [str_toList] at cl
      have HBi := hid hBi; have HRi := hid hRi; have HWi := hid hWi; have HOi := hid hown; clear hBi hRi hWi hown hv0' hR0 hW0 HB0
      go_upto_region 9 with (first | (go_at_call 56; with_reducible refine (cl _).mono ?_; rintro e w2 ⟨rfl, hb2⟩))
      have hB2 := (hb2.block w.heap.size (by omega)).trans HBi.out
      have hR2 := (hb2.block (w.heap.size + 1) hlti).trans HRi.out; have hW2 := below_tr HWi.out hb2; have hown2 := ownsRow_below HOi.out hb2; have hsz2 := hb2.size; have q3 : w2.cell? ⟨w.heap.size, 3, none⟩ = some (.int .i64 ((s.got : Int) + (i : Int))) := cell_of_row w2 _ 3 _ _ _ hB2
      have nofar : ∀ gb, (Value.slice a n c).ownBlock = some gb → (w.heap.size + 1 + 1) ≤ gb := fun gb hgb => (hown2.lt gb hgb).1
      have HGB : Hid (∀ w3 : World, (w2.alloc (.cells #[.int .i64 sp, .int .i64 ((s.got : Int) + (i : Int)), .string (str (keyK (chainK s.inn i)))] 142)).grownBy w3 (Value.slice a n c).ownBlock → w3.heap[w.heap.size]? = some (.cells #[.int .i64 s.role, .int .i64 s.step, .int .i64 s.sent, .int .i64 ((s.got : Int) + (i : Int)), .int .i64 s.prev, .int .i64 s.skip, .int .i64 s.cap, .string (str s.root), .string (str s.out), .string (str (chainK s.inn i)), .int .i64 s.secret, .int .i64 s.peer, .slice aa nn cc] 84)) := fun w3 hgr => (hgr.block w.heap.size (by simp; omega) (fun e => by have := nofar _ e.symm; omega)).trans ((Below.heap_alloc _ _ _ (by omega)).trans hB2)
      have HGR : Hid (∀ w3 : World, (w2.alloc (.cells #[.int .i64 sp, .int .i64 ((s.got : Int) + (i : Int)), .string (str (keyK (chainK s.inn i)))] 142)).grownBy w3 (Value.slice a n c).ownBlock → w3.heap[w.heap.size + 1]? = some (.cells #[.int .i64 0, .int .i64 0, .int .i64 0, .int .i64 0, .int .i64 0, .int .i64 0, .int .i64 0, .string ⟨#[]⟩, .string ⟨#[]⟩, .string ⟨#[]⟩, .int .i64 0, .int .i64 0, .slice none 0 0] 84)) := fun w3 hgr => (hgr.block (w.heap.size + 1) (by simp; omega) (fun e => by have := nofar _ e.symm; omega)).trans ((Below.heap_alloc _ _ _ (by omega)).trans hR2)
      have HGW : Hid (∀ w3 : World, (w2.alloc (.cells #[.int .i64 sp, .int .i64 ((s.got : Int) + (i : Int)), .string (str (keyK (chainK s.inn i)))] 142)).grownBy w3 (Value.slice a n c).ownBlock → Below w.heap.size w w3) := fun w3 hgr => grown_below (hW2.alloc (by omega) _) (ownsRow_base (hown2.alloc _) (by omega)) hgr
      clear k3 k9 HBi HRi HWi HOi hB2 hR2 hb2 hW2 nofar cl
      go_wp2_with (first | (at_builtin; go_loud (refine wpList_append_lies _ rfl (.tmp 44) (.tmp 50) _ rfl (w.heap.size + 1 + 1) 142 i0 _ 3 32 Try.underlying82 hi0 hz0 hz1 hz2 rfl (by omega) _ (s.kept.length + i) (entsCells (s.kept ++ spanL s.inn sp s.got i)) rfl (hown2.alloc _) ⟨w2.heap.size, 0, none⟩ 1 1 [.int .i64 sp, .int .i64 ((s.got : Int) + (i : Int)), .string (str (keyK (chainK s.inn i)))] rfl rfl (World.news_of_block (cs := #[.int .i64 sp, .int .i64 ((s.got : Int) + (i : Int)), .string (str (keyK (chainK s.inn i)))]) (t := 142) (fr := (0, 0)) (heap_alloc_new _ _)) (by simp [Value.oneCell']) (by omega) (by unfold maxLen; omega) (by omega) (by simp; omega) (w2.heap.size + 1) (by simp) ?_); intro g3 cap3 w3 hown3 hgrow hat hlt3; have hB3 := HGB.out w3 hgrow; have hR3 := HGR.out w3 hgrow; have HOW3 := hid hown3; have HBW3 : Hid (Below w.heap.size w w3) := HGW.out w3 hgrow; have HB3 := hid hB3; have HR3 := hid hR3; have q9 : w3.cell? ⟨w.heap.size, 9, none⟩ = some (.string (str (chainK s.inn i))) := cell_of_row w3 _ 9 _ _ _ hB3; have q3 : w3.cell? ⟨w.heap.size, 3, none⟩ = some (.int .i64 ((s.got : Int) + (i : Int))) := cell_of_row w3 _ 3 _ _ _ hB3; have fB : ∀ j, w3.frozen? ⟨w.heap.size, j, none⟩ = false := fun j => frozen_of_row w3 _ j _ _ hB3; clear hB3 hR3 hown3))
      go_roundg (gk - 1)
      case measure => omega
      case rel =>
        refine ⟨i + 1, some ⟨g3, 0, none⟩, s.kept.length + i + 1, cap3, rfl, by omega, by omega, ?_, ?_, ?_, ?_⟩
        · have h := HOW3.out
          have e : entsCells (s.kept ++ spanL s.inn sp s.got (i + 1)) = entsCells (s.kept ++ spanL s.inn sp s.got i) ++ [.int .i64 sp, .int .i64 ((s.got : Int) + (i : Int)), .string (str (keyK (chainK s.inn i)))] := by
            rw [spanL, ← List.append_assoc, ents_push]
            simp only [Int.natCast_add]
          rw [e]
          exact ownsRow_setCell_below (ownsRow_setCell_below h (by show w.heap.size < _; omega) _) (by show w.heap.size < _; omega) _
        · have h := heap_setCell_same _ w.heap.size 3 _ _ (.int .i64 ((s.got : Int) + (i : Int) + 1)) (heap_setCell_same _ w.heap.size 9 _ _ (.string (str (nextK (chainK s.inn i)))) HB3.out)
          have e : (s.got : Int) + ((i + 1 : Nat) : Int) = (s.got : Int) + (i : Int) + 1 := by omega
          rw [e]; exact h
        · exact (heap_setCell_other _ _ _ _ (by show w.heap.size + 1 ≠ w.heap.size; omega)).trans ((heap_setCell_other _ _ _ _ (by show w.heap.size + 1 ≠ w.heap.size; omega)).trans HR3.out)
        · exact (HBW3.out.setCell (by exact Nat.le_refl _) _).setCell (by exact Nat.le_refl _) _
    · obtain rfl : i = count - s.got := by omega
      have hcI : ¬ (s.got : Int) + ((count - s.got : Nat) : Int) < (count : Int) := by omega
      obtain ⟨m, hm⟩ : ∃ m, m = count - s.got := ⟨_, rfl⟩
      rw [← hm] at hown hBi k3 hcI HF HK HKL
      have HW9 := hid hWi; have HO9 := hid hown; have hX : (wr.setCell ⟨w.heap.size, 12, none⟩ (.slice a n c)).heap[w.heap.size]? = some (.cells #[.int .i64 s.role, .int .i64 s.step, .int .i64 s.sent, .int .i64 ((s.got : Int) + (m : Int)), .int .i64 s.prev, .int .i64 s.skip, .int .i64 s.cap, .string (str s.root), .string (str s.out), .string (str (chainK s.inn m)), .int .i64 s.secret, .int .i64 s.peer, .slice a n c] 84) := heap_setCell_same _ _ _ _ _ _ hBi
      have hY := (heap_setCell_other wr ⟨w.heap.size, 12, none⟩ (w.heap.size + 1) (.slice a n c) (by show w.heap.size + 1 ≠ w.heap.size; omega)).trans hRi
      have hZ : Below w.heap.size w (wr.setCell ⟨w.heap.size, 12, none⟩ (.slice a n c)) := hWi.setCell (by exact Nat.le_refl _) _
      have hO : (wr.setCell ⟨w.heap.size, 12, none⟩ (.slice a n c)).ownsRow (w.heap.size + 1 + 1) 142 3 (.slice a n c) (s.kept.length + m) (entsCells (s.kept ++ spanL s.inn sp s.got m)) := ownsRow_setCell_below hown (by show w.heap.size < _; omega) _
      have k12 : wr.cell? ⟨w.heap.size, 12, none⟩ = some (.slice aa nn cc) := cell_of_row wr _ 12 _ _ _ hBi
      have fB : ∀ j, wr.frozen? ⟨w.heap.size, j, none⟩ = false := fun j => frozen_of_row wr _ j _ _ hBi
      have HX := hid hX; clear hWi hRi hown hBi hv0' hR0 hW0 HB0
      go_upto_region 13 with fail
      generalize (wr.setCell ⟨w.heap.size, 12, none⟩ (.slice a n c)) = wz at hX hY hZ hO ⊢
      obtain ⟨u0, u1, u2, u3, u4, u5, u6, u7, u8, u9, u10, u11, u12⟩ := cells13 hX; obtain ⟨a0, a1, a2, a3, a4, a5, a6, a7, a8, a9, a10, a11, a12⟩ := cells13 hY
      have fA : ∀ j, wz.frozen? ⟨w.heap.size + 1, j, none⟩ = false := fun j => frozen_of_row wz _ j _ _ hY
      have HZ := hid hZ; have HO := hid hO; clear hX hY hZ hO fB k12 k3; go_wp2
      (try simp only [Exit.inBlock, Exit.then])
      refine bodyPost_ret (v := .tuple #[.agg #[.int .i64 s.role, .int .i64 s.step, .int .i64 s.sent, .int .i64 ((s.got : Int) + (m : Int)), .int .i64 s.prev, .int .i64 s.skip, .int .i64 s.cap, .string (str s.root), .string (str s.out), .string (str (chainK s.inn m)), .int .i64 s.secret, .int .i64 s.peer, .slice a n c], .bool true]) ?_ ?_ ?_
      · rw [results_cell_tmp (fn := Try.f97) rfl]; simp [go_sem, a0, a1, a2, a3, a4, a5, a6, a7, a8, a9, a10, a11, a12]; exact ⟨by rw [hm], by rw [hm]⟩
      · rfl
      · refine ⟨⟨a, n, c, by rw [HF.out], ?_⟩, ?_⟩
        · rw [HKL.out, HK.out]
          refine ownsRow_base (base := (w.heap.size + 1 + 1)) ?_ (by omega)
          repeat (with_reducible refine ownsRow_setCell_below ?_ (by exact Nat.lt_succ_self _) _)
          exact HO.out
        · repeat (with_reducible refine Below.setCell ?_ (by exact Nat.le_succ _) _)
          exact HZ.out
theorem results_tct {fn : Func} {p u u' : Tmp} {ty : TypeId} (h : fn.results = #[.tmp u, .cell p ty, .tmp u']) (tmps : Array Value) (P : Program) (w : World) :
    (results fn tmps).run P w =
      ((asAddr (tmps.getD p undef)).run P w).andThen fun a w₁ => ((loadVar ty a).run P w₁).andThen fun v w₂ => .ok (.tuple #[tmps.getD u undef, v, tmps.getD u' undef]) w₂ := by
  simp only [results, h]
  simp [Sem.run_bind, Result.andThen]
theorem EntsAt.lt {w : World} {v : Value} {l : List EntM} (h : EntsAt w v l) {g o n c : Nat} (hv : v = .slice (some ⟨g, o, none⟩) n c) : g < w.heap.size := by
  rcases h with ⟨h1, _⟩ | ⟨g', cap, h1, _, h3, _⟩
  · rw [h1] at hv; cases hv
  · rw [h1] at hv
    injection hv with q1 _ _
    injection q1 with q1
    injection q1 with q1 _
    subst q1; exact h3
theorem EntsAt.put {w : World} {v : Value} {l : List EntM} {b : Nat} (h : EntsAt w v l) (ho : Off (fun g => g = b) v) (i : Nat) (x : Value) : EntsAt (w.setCell ⟨b, i, none⟩ x) v l := EntsAt.set (A := fun g => g = b) h ho rfl x
theorem Off.mono {A A' : Nat → Prop} {v : Value} (h : Off A v) (hA : ∀ g, A' g → A g) : Off A' v := fun g o n c hv ha => h g o n c hv (hA g ha)
theorem Off.above {w : World} {v : Value} {l : List EntM} (h : EntsAt w v l) (b : Nat) (hb : w.heap.size ≤ b) : Off (fun g => g = b) v := fun g o n c hv ha => by
  have := h.lt hv
  omega
def With (A : Nat → Prop) (lo hi : Nat) : Nat → Prop := fun g => A g ∨ (lo ≤ g ∧ g < hi)
theorem Off.with {A : Nat → Prop} {w : World} {v : Value} {l : List EntM} (h : Off A v) (he : EntsAt w v l) (hi : Nat) : Off (With A w.heap.size hi) v := by
  intro g o n c hv ha
  rcases ha with ha | ha
  · exact h g o n c hv ha
  · have := he.lt hv; omega
def PassOut (s : StM) (count : Nat) (A : Nat → Prop) (w' : World) (e : Ending) : Prop :=
  (skipBad s count ∧ e = .returned (.tuple #[.agg #[.int .i64 0, .int .i64 0, .int .i64 0, .int .i64 0, .int .i64 0, .int .i64 0, .int .i64 0, .string ⟨#[]⟩, .string ⟨#[]⟩, .string ⟨#[]⟩, .int .i64 0, .int .i64 0, .slice none 0 0], .bool false])) ∨ (¬ skipBad s count ∧ ∃ (a : Option Addr) (n c : Nat), e = .returned (.tuple #[.agg (stCells (passS s count) (.slice a n c)), .bool true]) ∧ EntsAt w' (.slice a n c) (passS s count).kept ∧ Off A (.slice a n c))
theorem pass_any (s : StM) (aa : Option Addr) (nn cc : Nat) (count : Nat) (A : Nat → Prop) (w : World) (h1 : 1 ≤ s.step) (h255 : s.step ≤ 255) (hc : count ≤ 255) (hl : s.kept.length ≤ 255) (hin : s.inn.length = 8) (hv : EntsAt w (.slice aa nn cc) s.kept) (ho : Off A (.slice aa nn cc)) (hA : ∀ g, A g → g < w.heap.size) :
    Calls Try.prog 97 #[.agg #[.int .i64 s.role, .int .i64 s.step, .int .i64 s.sent, .int .i64 s.got, .int .i64 s.prev, .int .i64 s.skip, .int .i64 s.cap, .string (str s.root), .string (str s.out), .string (str s.inn), .int .i64 s.secret, .int .i64 s.peer, .slice aa nn cc], .int .i64 count] w fun e w' => PassOut s count A w' e ∧ Below w.heap.size w w' := by
  rcases Nat.lt_or_ge s.got count with hg | hg
  · by_cases hb : skipBad s count
    · refine (pass_bad s aa nn cc count w h1 h255 hc hl hv hb).mono ?_
      rintro e w' ⟨he, hw⟩
      exact ⟨.inl ⟨hb, he⟩, hw⟩
    · refine (pass_ok s aa nn cc count w h1 h255 hc hl hin hv hg hb).mono ?_
      rintro e w' ⟨⟨a, n, c, he, hown⟩, hw⟩
      exact ⟨.inr ⟨hb, a, n, c, he, EntsAt.of_own hown, Off.own hown hA⟩, hw⟩
  · have hb : ¬ skipBad s count := fun q => by have := q.1; omega
    refine (pass_same s aa nn cc count w hg).mono ?_
    rintro e w' ⟨he, hw⟩
    refine ⟨.inr ⟨hb, aa, nn, cc, ?_, ?_, ho⟩, hw⟩
    · rw [passS_id s count hg]; exact he
    · rw [passS_id s count hg]; exact hv.next hw
theorem due_any (s : StM) (aa : Option Addr) (nn cc : Nat) (l : LetM) (A : Nat → Prop) (w : World) (h1 : 1 ≤ s.step) (h255 : s.step ≤ 255) (hc : l.count ≤ 254) (hl : s.kept.length ≤ 255) (hin : s.inn.length = 8) (hv : EntsAt w (.slice aa nn cc) s.kept) (ho : Off A (.slice aa nn cc)) (hA : ∀ g, A g → g < w.heap.size) :
    Calls Try.prog 89 #[.agg #[.int .i64 s.role, .int .i64 s.step, .int .i64 s.sent, .int .i64 s.got, .int .i64 s.prev, .int .i64 s.skip, .int .i64 s.cap, .string (str s.root), .string (str s.out), .string (str s.inn), .int .i64 s.secret, .int .i64 s.peer, .slice aa nn cc], .agg #[.int .i64 l.step, .int .i64 l.count, .int .i64 l.prev, .int .i64 l.pub, .string (str l.head), .string (str l.body)]] w fun e w' => ((skipBad s l.count ∧ e = .returned (.tuple #[.string ⟨#[]⟩, .agg #[.int .i64 0, .int .i64 0, .int .i64 0, .int .i64 0, .int .i64 0, .int .i64 0, .int .i64 0, .string ⟨#[]⟩, .string ⟨#[]⟩, .string ⟨#[]⟩, .int .i64 0, .int .i64 0, .slice none 0 0], .int .i64 17])) ∨ (¬ skipBad s l.count ∧ ∃ (a : Option Addr) (n c : Nat), e = .returned (.tuple #[.string (str (dueKey s l.count)), .agg (stCells (dueS s l.count) (.slice a n c)), .int .i64 0]) ∧ EntsAt w' (.slice a n c) (dueS s l.count).kept ∧ Off A (.slice a n c))) ∧ Below w.heap.size w w' := by
  have HA : Hid (∀ g, A g → g < w.heap.size) := hA
  go_enter Try.func89, Try.ntmps89
  go_upto_region 1 with fail
  obtain ⟨wb, ewb, hB, hL, hR, hW, hlt⟩ := alloc3e w (.cells #[.int .i64 s.role, .int .i64 s.step, .int .i64 s.sent, .int .i64 s.got, .int .i64 s.prev, .int .i64 s.skip, .int .i64 s.cap, .string (str s.root), .string (str s.out), .string (str s.inn), .int .i64 s.secret, .int .i64 s.peer, .slice aa nn cc] 84) (.cells #[.int .i64 l.step, .int .i64 l.count, .int .i64 l.prev, .int .i64 l.pub, .string (str l.head), .string (str l.body)] 96) (.cells #[.int .i64 0, .int .i64 0, .int .i64 0, .int .i64 0, .int .i64 0, .int .i64 0, .int .i64 0, .string ⟨#[]⟩, .string ⟨#[]⟩, .string ⟨#[]⟩, .int .i64 0, .int .i64 0, .slice none 0 0] 84); rw [← ewb]; clear ewb; have HB := hid hB; have HL := hid hL; have HR := hid hR; have HW := hid hW
  have c1 := pass_any s aa nn cc l.count (With A w.heap.size (w.heap.size + 1 + 1 + 1)) wb h1 h255 (by omega) hl hin (hv.next hW) (ho.with hv _) (fun g hg => by rcases hg with hg | hg; (have := HA.out g hg; omega); omega)
  obtain ⟨k0, k1, k2, k3, k4, k5, k6, k7, k8, k9, k10, k11, k12⟩ := cells13 hB; have q1 : wb.cell? ⟨w.heap.size + 1, 1, none⟩ = some (.int .i64 l.count) := cell_of_row wb _ 1 _ _ _ hL; clear hB hL hR hW hv ho hA
  by_cases hb : skipBad s l.count
  · have c2 : Calls Try.prog 97 #[.agg #[.int .i64 s.role, .int .i64 s.step, .int .i64 s.sent, .int .i64 s.got, .int .i64 s.prev, .int .i64 s.skip, .int .i64 s.cap, .string (str s.root), .string (str s.out), .string (str s.inn), .int .i64 s.secret, .int .i64 s.peer, .slice aa nn cc], .int .i64 l.count] wb fun e w' => e = .returned (.tuple #[.agg #[.int .i64 0, .int .i64 0, .int .i64 0, .int .i64 0, .int .i64 0, .int .i64 0, .int .i64 0, .string ⟨#[]⟩, .string ⟨#[]⟩, .string ⟨#[]⟩, .int .i64 0, .int .i64 0, .slice none 0 0], .bool false]) ∧ Below wb.heap.size wb w' := by
      refine c1.mono ?_
      rintro e w' ⟨q, hw⟩
      rcases q with ⟨_, q⟩ | ⟨q, _⟩
      · exact ⟨q, hw⟩
      · exact absurd hb q
    clear c1
    go_upto_region 3 with (first | (go_at_call 97; (with_reducible refine c2.mono ?_); rintro e w2 ⟨rfl, hb2⟩))
    have hR2 := (hb2.block (w.heap.size + 1 + 1) (by omega)).trans HR.out
    have hW2 := below_tr HW.out hb2; have hsz2 := hb2.size; obtain ⟨a0, a1, a2, a3, a4, a5, a6, a7, a8, a9, a10, a11, a12⟩ := cells13 hR2
    have fA : ∀ j, w2.frozen? ⟨w.heap.size + 1 + 1, j, none⟩ = false := fun j => frozen_of_row w2 _ j _ _ hR2
    have hlt2 : w.heap.size + 1 + 1 < w2.heap.size := by omega
    have HW2 := hid hW2; have HBAD : Hid (skipBad s l.count) := hb; clear hR2 hW2 hb2 c2 hb k0 k1 k2 k3 k4 k5 k6 k7 k8 k9 k10 k11 k12; go_wp2
    (try simp only [Exit.inBlock, Exit.then])
    refine bodyPost_ret (v := .tuple #[.string ⟨#[]⟩, .agg #[.int .i64 0, .int .i64 0, .int .i64 0, .int .i64 0, .int .i64 0, .int .i64 0, .int .i64 0, .string ⟨#[]⟩, .string ⟨#[]⟩, .string ⟨#[]⟩, .int .i64 0, .int .i64 0, .slice none 0 0], .int .i64 17]) ?_ ?_ ?_
    · rw [results_tct (fn := Try.f89) rfl]; simp [go_sem, hlt2, a0, a1, a2, a3, a4, a5, a6, a7, a8, a9, a10, a11, a12]
    · rfl
    · refine ⟨.inl ⟨HBAD.out, rfl⟩, ?_⟩
      have hw := HW2.out
      repeat (first | (with_reducible refine Below.setCell ?_ (by show w.heap.size ≤ w.heap.size + 1 + 1; omega) _) | (with_reducible refine Below.alloc ?_ (by simp; omega) _))
      exact hw
  · have c2 : Calls Try.prog 97 #[.agg #[.int .i64 s.role, .int .i64 s.step, .int .i64 s.sent, .int .i64 s.got, .int .i64 s.prev, .int .i64 s.skip, .int .i64 s.cap, .string (str s.root), .string (str s.out), .string (str s.inn), .int .i64 s.secret, .int .i64 s.peer, .slice aa nn cc], .int .i64 l.count] wb fun e w' => (∃ (a : Option Addr) (n c : Nat), e = .returned (.tuple #[.agg (stCells (passS s l.count) (.slice a n c)), .bool true]) ∧ EntsAt w' (.slice a n c) (passS s l.count).kept ∧ Off (With A w.heap.size (w.heap.size + 1 + 1 + 1)) (.slice a n c)) ∧ Below wb.heap.size wb w' := by
      refine c1.mono ?_
      rintro e w' ⟨q, hw⟩
      rcases q with ⟨q, _⟩ | ⟨_, q⟩
      · exact absurd q hb
      · exact ⟨q, hw⟩
    have hpi : (passS s l.count).inn.length = 8 := chainK_length _ hin _
    have HD : Hid (∀ v, stCells (dueS s l.count) v = #[.int .i64 ((passS s l.count).role : Int), .int .i64 ((passS s l.count).step : Int), .int .i64 ((passS s l.count).sent : Int), .int .i64 ((l.count : Int) + 1), .int .i64 ((passS s l.count).prev : Int), .int .i64 ((passS s l.count).skip : Int), .int .i64 ((passS s l.count).cap : Int), .string (str (passS s l.count).root), .string (str (passS s l.count).out), .string (str (nextK (passS s l.count).inn)), .int .i64 ((passS s l.count).secret : Int), .int .i64 ((passS s l.count).peer : Int), v]) := fun v => by
      show stCells (dueS s l.count) v = _
      rw [dueS, stCells]
      simp only [Int.natCast_add]
      rfl
    have HK : Hid ((dueS s l.count).kept = (passS s l.count).kept) := rfl; have HDK : Hid (dueKey s l.count = keyK (passS s l.count).inn) := rfl; have HBAD : Hid (¬ skipBad s l.count) := hb
    unfold stCells at c2
    clear c1 hb
    generalize passS s l.count = p at *
    have c3 := fun w => link_any (str p.inn) w (by rw [str_size]; exact hpi)
    rw [str_toList] at c3
    obtain ⟨nx, hnx⟩ : ∃ nx, nx = str (nextK p.inn) := ⟨_, rfl⟩
    rw [← hnx] at c3 HD
    clear hnx
    go_upto_region 4 with (first | (go_at_call 97; (with_reducible refine c2.mono ?_); rintro e w2 ⟨⟨a, n, c, rfl, he2, ho2⟩, hb2⟩))
    have hsz2 := hb2.size
    obtain ⟨ob, eob⟩ : ∃ ob, ob = Obj.cells #[.int .i64 p.role, .int .i64 p.step, .int .i64 p.sent, .int .i64 p.got, .int .i64 p.prev, .int .i64 p.skip, .int .i64 p.cap, .string (str p.root), .string (str p.out), .string (str p.inn), .int .i64 p.secret, .int .i64 p.peer, .slice a n c] 84 := ⟨_, rfl⟩
    rw [← eob]; have hP := heap_alloc_new w2 ob
    have hR2 : (w2.alloc ob).heap[w.heap.size + 1 + 1]? = some (.cells #[.int .i64 0, .int .i64 0, .int .i64 0, .int .i64 0, .int .i64 0, .int .i64 0, .int .i64 0, .string ⟨#[]⟩, .string ⟨#[]⟩, .string ⟨#[]⟩, .int .i64 0, .int .i64 0, .slice none 0 0] 84) := (Below.heap_alloc _ _ _ (by omega)).trans ((hb2.block (w.heap.size + 1 + 1) (by omega)).trans HR.out)
    have hL2 : (w2.alloc ob).heap[w.heap.size + 1]? = some (.cells #[.int .i64 l.step, .int .i64 l.count, .int .i64 l.prev, .int .i64 l.pub, .string (str l.head), .string (str l.body)] 96) := (Below.heap_alloc _ _ _ (by omega)).trans ((hb2.block (w.heap.size + 1) (by omega)).trans HL.out)
    have hE2 : EntsAt (w2.alloc ob) (.slice a n c) p.kept := he2.next ((Below.refl _ _).alloc (Nat.le_refl _) _)
    have hOP : Off (fun g => g = w2.heap.size) (.slice a n c) := Off.above he2 _ (Nat.le_refl _)
    have hOR : Off (fun g => g = w.heap.size + 1 + 1) (.slice a n c) := ho2.mono (fun g hg => by right; omega)
    have hW2 : Below w.heap.size w (w2.alloc ob) := below_tr (below_tr HW.out hb2) ((Below.refl _ _).alloc (Nat.le_refl _) _)
    have hltP : w2.heap.size < (w2.alloc ob).heap.size := by simp
    have hltR : w.heap.size + 1 + 1 < w2.heap.size := by omega
    generalize (w2.alloc ob) = wp at hP hR2 hL2 hE2 hW2 hltP ⊢
    subst eob
    generalize w2.heap.size = B at hP hltP hOP hltR ⊢
    have HOP := hid hOP; have HOR := hid hOR
    have HOA : Hid (Off A (.slice a n c)) := ho2.mono (fun g hg => .inl hg)
    have HP := hid hP; have HR2 := hid hR2; have HL2 := hid hL2; have HE2 := hid hE2; have HW2 := hid hW2; have y9 : wp.cell? ⟨B, 9, none⟩ = some (.string (str p.inn)) := cell_of_row wp _ 9 _ _ _ hP; clear hP hR2 hL2 hE2 hW2 hOP hOR ho2 he2 hb2 c2 k0 k1 k2 k3 k4 k5 k6 k7 k8 k9 k10 k11 k12 q1 hsz2
    go_upto_region 5 with (first | (go_at_call 56; (with_reducible refine (c3 _).mono ?_); rintro e w3 ⟨rfl, hb3⟩))
    have hP3 := (hb3.block B hltP).trans HP.out
    have hR3 := (hb3.block (w.heap.size + 1 + 1) (by omega)).trans HR2.out
    have hL3 := (hb3.block (w.heap.size + 1) (by omega)).trans HL2.out
    have HE3 : Hid (EntsAt w3 (.slice a n c) p.kept) := HE2.out.next hb3; have HW3 : Hid (Below w.heap.size w w3) := below_tr HW2.out hb3; have z9 : w3.cell? ⟨B, 9, none⟩ = some (.string (str p.inn)) := cell_of_row w3 _ 9 _ _ _ hP3; have z3 : w3.cell? ⟨B, 3, none⟩ = some (.int .i64 p.got) := cell_of_row w3 _ 3 _ _ _ hP3; have q1 : w3.cell? ⟨w.heap.size + 1, 1, none⟩ = some (.int .i64 l.count) := cell_of_row w3 _ 1 _ _ _ hL3
    have fB : ∀ j, w3.frozen? ⟨B, j, none⟩ = false := fun j => frozen_of_row w3 _ j _ _ hP3
    have hneL : ¬ w.heap.size + 1 = B := by omega
    have hneL2 : ¬ B = w.heap.size + 1 := by omega
    have HP3 := hid hP3; have HR3 := hid hR3; clear hP3 hR3 hL3 hb3 HP HR2 HL2 HE2 HW2 y9 c3
    go_upto_region 7 with fail
    have hX : ((w3.setCell ⟨B, 9, none⟩ (.string nx)).setCell ⟨B, 3, none⟩ (.int .i64 ((l.count : Int) + 1))).heap[B]? = some (.cells #[.int .i64 p.role, .int .i64 p.step, .int .i64 p.sent, .int .i64 ((l.count : Int) + 1), .int .i64 p.prev, .int .i64 p.skip, .int .i64 p.cap, .string (str p.root), .string (str p.out), .string nx, .int .i64 p.secret, .int .i64 p.peer, .slice a n c] 84) := heap_setCell_same _ _ _ _ _ _ (heap_setCell_same _ _ _ _ _ _ HP3.out)
    have hY : ((w3.setCell ⟨B, 9, none⟩ (.string nx)).setCell ⟨B, 3, none⟩ (.int .i64 ((l.count : Int) + 1))).heap[w.heap.size + 1 + 1]? = some (.cells #[.int .i64 0, .int .i64 0, .int .i64 0, .int .i64 0, .int .i64 0, .int .i64 0, .int .i64 0, .string ⟨#[]⟩, .string ⟨#[]⟩, .string ⟨#[]⟩, .int .i64 0, .int .i64 0, .slice none 0 0] 84) := (heap_setCell_other _ _ _ _ (by show w.heap.size + 1 + 1 ≠ B; omega)).trans ((heap_setCell_other _ _ _ _ (by show w.heap.size + 1 + 1 ≠ B; omega)).trans HR3.out)
    have hE : EntsAt ((w3.setCell ⟨B, 9, none⟩ (.string nx)).setCell ⟨B, 3, none⟩ (.int .i64 ((l.count : Int) + 1))) (.slice a n c) p.kept := (HE3.out.put HOP.out _ _).put HOP.out _ _
    have hZ : Below w.heap.size w ((w3.setCell ⟨B, 9, none⟩ (.string nx)).setCell ⟨B, 3, none⟩ (.int .i64 ((l.count : Int) + 1))) := (HW3.out.setCell (by show w.heap.size ≤ B; omega) _).setCell (by show w.heap.size ≤ B; omega) _
    generalize ((w3.setCell ⟨B, 9, none⟩ (.string nx)).setCell ⟨B, 3, none⟩ (.int .i64 ((l.count : Int) + 1))) = wz at hX hY hE hZ ⊢
    obtain ⟨u0, u1, u2, u3, u4, u5, u6, u7, u8, u9, u10, u11, u12⟩ := cells13 hX; obtain ⟨a0, a1, a2, a3, a4, a5, a6, a7, a8, a9, a10, a11, a12⟩ := cells13 hY
    have fA : ∀ j, wz.frozen? ⟨w.heap.size + 1 + 1, j, none⟩ = false := fun j => frozen_of_row wz _ j _ _ hY
    have HZ := hid hZ; have HE := hid hE; clear hX hY hE hZ z9 z3 q1 fB HP3 HR3 HE3 HW3
    go_region
    all_goals go_wp2
    all_goals (try simp only [Exit.inBlock, Exit.then])
    all_goals (refine bodyPost_ret (v := .tuple #[.string (str (keyK p.inn)), .agg #[.int .i64 p.role, .int .i64 p.step, .int .i64 p.sent, .int .i64 ((l.count : Int) + 1), .int .i64 p.prev, .int .i64 p.skip, .int .i64 p.cap, .string (str p.root), .string (str p.out), .string nx, .int .i64 p.secret, .int .i64 p.peer, .slice a n c], .int .i64 0]) ?_ ?_ ?_)
    all_goals first
      | rfl
      | (rw [results_tct (fn := Try.f89) rfl]; simp [go_sem, a0, a1, a2, a3, a4, a5, a6, a7, a8, a9, a10, a11, a12])
      | (refine ⟨.inr ⟨HBAD.out, a, n, c, by rw [HD.out, HDK.out], ?_, HOA.out⟩, ?_⟩
         · rw [HK.out]
           repeat (first | (with_reducible refine EntsAt.put ?_ HOR.out _ _) | (with_reducible refine EntsAt.next ?_ (Below.refl _ _).drew))
           exact HE.out
         · repeat (first | (with_reducible refine Below.setCell ?_ (by show w.heap.size ≤ w.heap.size + 1 + 1; omega) _) | (with_reducible refine Below.drew ?_))
           exact HZ.out)
theorem talkTurn_any (s : StM) (aa : Option Addr) (nn cc : Nat) (l : LetM) (draw : Nat) (w : World) (hr : s.root.length = 8) (hs : s.secret < 2147483647) (hp : l.pub < 2147483647) (hd : draw < 2147483647) (hst : l.step ≤ 254) :
    Calls Try.prog 98 #[.agg #[.int .i64 s.role, .int .i64 s.step, .int .i64 s.sent, .int .i64 s.got, .int .i64 s.prev, .int .i64 s.skip, .int .i64 s.cap, .string (str s.root), .string (str s.out), .string (str s.inn), .int .i64 s.secret, .int .i64 s.peer, .slice aa nn cc], .agg #[.int .i64 l.step, .int .i64 l.count, .int .i64 l.prev, .int .i64 l.pub, .string (str l.head), .string (str l.body)], .int .i64 draw] w fun e w' => e = .returned (.agg (stCells (turnS s l.step l.pub draw) (.slice aa nn cc))) ∧ Below w.heap.size w w' := by
  have n1 := pwN_lt l.pub s.secret; have n2 := pwN_lt l.pub draw
  have c1 := fun w => devShared_any s.secret l.pub w hs hp
  have c2 := fun w => turn_any (str s.root) (pwN l.pub s.secret) w (by rw [str_size]; exact hr) (by omega)
  have c3 := fun w => devShared_any draw l.pub w hd hp
  have c4 := fun w => turn_any (str (rootL s.root (pwN l.pub s.secret))) (pwN l.pub draw) w rfl (by omega)
  rw [str_toList] at c2 c4
  have HF : Hid (∀ v, stCells (turnS s l.step l.pub draw) v = #[.int .i64 s.role, .int .i64 ((l.step : Int) + 1), .int .i64 0, .int .i64 0, .int .i64 s.sent, .int .i64 s.skip, .int .i64 s.cap, .string (str (rootL (rootL s.root (pwN l.pub s.secret)) (pwN l.pub draw))), .string (str (chainL (rootL s.root (pwN l.pub s.secret)) (pwN l.pub draw))), .string (str (chainL s.root (pwN l.pub s.secret))), .int .i64 draw, .int .i64 l.pub, v]) := fun v => by
    show stCells (turnS s l.step l.pub draw) v = _
    rw [turnS, stCells]
    simp only [Int.natCast_add]
    rfl
  obtain ⟨i1, hi1⟩ : ∃ x, x = str (chainL s.root (pwN l.pub s.secret)) := ⟨_, rfl⟩
  obtain ⟨o1, ho1⟩ : ∃ x, x = str (chainL (rootL s.root (pwN l.pub s.secret)) (pwN l.pub draw)) := ⟨_, rfl⟩
  obtain ⟨r2, hr2⟩ : ∃ x, x = str (rootL (rootL s.root (pwN l.pub s.secret)) (pwN l.pub draw)) := ⟨_, rfl⟩
  obtain ⟨r1, hr1⟩ : ∃ x, x = str (rootL s.root (pwN l.pub s.secret)) := ⟨_, rfl⟩
  rw [← hi1, ← ho1, ← hr2] at HF
  rw [← hi1, ← hr1] at c2
  rw [← ho1, ← hr2, ← hr1] at c4
  clear hi1 ho1 hr2 hr1
  generalize pwN l.pub s.secret = d1 at *
  generalize pwN l.pub draw = d2 at *
  go_enter Try.func98, Try.ntmps98
  go_upto_region 1 with fail
  obtain ⟨wb, ewb, hB, hL, hR, hW, hlt⟩ := alloc3e w (.cells #[.int .i64 s.role, .int .i64 s.step, .int .i64 s.sent, .int .i64 s.got, .int .i64 s.prev, .int .i64 s.skip, .int .i64 s.cap, .string (str s.root), .string (str s.out), .string (str s.inn), .int .i64 s.secret, .int .i64 s.peer, .slice aa nn cc] 84) (.cells #[.int .i64 l.step, .int .i64 l.count, .int .i64 l.prev, .int .i64 l.pub, .string (str l.head), .string (str l.body)] 96) (.cells #[.int .i64 0, .int .i64 0, .int .i64 0, .int .i64 0, .int .i64 0, .int .i64 0, .int .i64 0, .string ⟨#[]⟩, .string ⟨#[]⟩, .string ⟨#[]⟩, .int .i64 0, .int .i64 0, .slice none 0 0] 84); rw [← ewb]; clear ewb; have HB := hid hB; have HL := hid hL; have HR := hid hR; have HW := hid hW; have k7 : wb.cell? ⟨w.heap.size, 7, none⟩ = some (.string (str s.root)) := cell_of_row wb _ 7 _ _ _ hB; have k10 : wb.cell? ⟨w.heap.size, 10, none⟩ = some (.int .i64 s.secret) := cell_of_row wb _ 10 _ _ _ hB; have q3 : wb.cell? ⟨w.heap.size + 1, 3, none⟩ = some (.int .i64 l.pub) := cell_of_row wb _ 3 _ _ _ hL; clear hB hL hR hW
  go_cut [7, 8] (fun x7 x8 wx => x7 = .string i1 ∧ x8 = .string r1 ∧ Below wb.heap.size wb wx)
  case first =>
    go_region_held3 (fun w' => w'.cell? ⟨w.heap.size, 7, none⟩ = some (.string (str s.root)) ∧ w'.cell? ⟨w.heap.size, 10, none⟩ = some (.int .i64 s.secret) ∧ w'.cell? ⟨w.heap.size + 1, 3, none⟩ = some (.int .i64 l.pub)) (first | (simp [k7, k10, q3]; done) | (simp [g7, g10, g3]; done)) (first | (go_at_call 94; go_must (with_reducible refine (c1 _).mono ?_); rintro e w' ⟨rfl, hw⟩; rw [hw]; clear hw w') | (go_at_call 93; go_must (with_reducible refine (c2 _).mono ?_); rintro e w1 ⟨rfl, hb1⟩; have hb1' : Below wb.heap.size wb w1 := ⟨hb1.os, hb1.tape, hb1.output, hb1.size, hb1.block⟩; have g7 := (hb1'.cell (p := ⟨w.heap.size, 7, none⟩) (by show w.heap.size < _; omega)).trans k7; have g10 := (hb1'.cell (p := ⟨w.heap.size, 10, none⟩) (by show w.heap.size < _; omega)).trans k10; have g3 := (hb1'.cell (p := ⟨w.heap.size + 1, 3, none⟩) (by show w.heap.size + 1 < _; omega)).trans q3; clear hb1'))
    all_goals (go_wp2_with fail)
    all_goals go_meet
    all_goals exact ⟨rfl, rfl, ⟨hb1.os, hb1.tape, hb1.output, hb1.size, hb1.block⟩⟩
  case rest =>
    obtain ⟨rfl, rfl, hb1⟩ := hcut; have hsz1 := hb1.size
    have hB1 := (hb1.block w.heap.size (by omega)).trans HB.out
    have hL1 := (hb1.block (w.heap.size + 1) (by omega)).trans HL.out
    have hR1 := (hb1.block (w.heap.size + 1 + 1) (by omega)).trans HR.out
    have HB1 := hid hB1; have HL1 := hid hL1; have HR1 := hid hR1; have HW1 : Hid (Below w.heap.size w wc) := below_tr HW.out hb1; have q3' : wc.cell? ⟨w.heap.size + 1, 3, none⟩ = some (.int .i64 l.pub) := cell_of_row wc _ 3 _ _ _ hL1
    have hlt1 : w.heap.size + 1 + 1 < wc.heap.size := by omega
    clear k7 k10 q3 hB1 hL1 hR1 hb1 HB HL HR HW c1 c2 hsz1 hlt
    go_upto_region 3 with (first | (go_at_call 94; (with_reducible refine (c3 _).mono ?_); rintro e w' ⟨rfl, hw⟩; rw [hw]; clear hw w') | (go_at_call 93; (with_reducible refine (c4 _).mono ?_); rintro e w3 ⟨rfl, hb3⟩))
    have hB3 := (hb3.block w.heap.size (by omega)).trans HB1.out
    have hL3 := (hb3.block (w.heap.size + 1) (by omega)).trans HL1.out
    have hR3 := (hb3.block (w.heap.size + 1 + 1) hlt1).trans HR1.out; have HW3 : Hid (Below w.heap.size w w3) := below_tr HW1.out hb3; have z1 : w3.cell? ⟨w.heap.size, 1, none⟩ = some (.int .i64 s.step) := cell_of_row w3 _ 1 _ _ _ hB3; have z2 : w3.cell? ⟨w.heap.size, 2, none⟩ = some (.int .i64 s.sent) := cell_of_row w3 _ 2 _ _ _ hB3; have z3 : w3.cell? ⟨w.heap.size, 3, none⟩ = some (.int .i64 s.got) := cell_of_row w3 _ 3 _ _ _ hB3; have z4 : w3.cell? ⟨w.heap.size, 4, none⟩ = some (.int .i64 s.prev) := cell_of_row w3 _ 4 _ _ _ hB3; have z7 : w3.cell? ⟨w.heap.size, 7, none⟩ = some (.string (str s.root)) := cell_of_row w3 _ 7 _ _ _ hB3; have z8 : w3.cell? ⟨w.heap.size, 8, none⟩ = some (.string (str s.out)) := cell_of_row w3 _ 8 _ _ _ hB3; have z9 : w3.cell? ⟨w.heap.size, 9, none⟩ = some (.string (str s.inn)) := cell_of_row w3 _ 9 _ _ _ hB3; have z10 : w3.cell? ⟨w.heap.size, 10, none⟩ = some (.int .i64 s.secret) := cell_of_row w3 _ 10 _ _ _ hB3; have z11 : w3.cell? ⟨w.heap.size, 11, none⟩ = some (.int .i64 s.peer) := cell_of_row w3 _ 11 _ _ _ hB3; have q0 : w3.cell? ⟨w.heap.size + 1, 0, none⟩ = some (.int .i64 l.step) := cell_of_row w3 _ 0 _ _ _ hL3; have q3 : w3.cell? ⟨w.heap.size + 1, 3, none⟩ = some (.int .i64 l.pub) := cell_of_row w3 _ 3 _ _ _ hL3
    have fB : ∀ j, w3.frozen? ⟨w.heap.size, j, none⟩ = false := fun j => frozen_of_row w3 _ j _ _ hB3
    have HB3 := hid hB3; have HR3 := hid hR3; clear hB3 hL3 hR3 hb3 q3' HB1 HL1 HR1 HW1 c3 c4
    go_upto_region 12 with fail
    have hX0 : (w3.setCell ⟨w.heap.size, 9, none⟩ (.string i1)).heap[w.heap.size]? = some (.cells #[.int .i64 s.role, .int .i64 s.step, .int .i64 s.sent, .int .i64 s.got, .int .i64 s.prev, .int .i64 s.skip, .int .i64 s.cap, .string (str s.root), .string (str s.out), .string i1, .int .i64 s.secret, .int .i64 s.peer, .slice aa nn cc] 84) := heap_setCell_same _ _ _ _ _ _ HB3.out
    have hY0 := (heap_setCell_other w3 ⟨w.heap.size, 9, none⟩ (w.heap.size + 1 + 1) (.string i1) (by show w.heap.size + 1 + 1 ≠ w.heap.size; omega)).trans HR3.out
    have hZ0 : Below w.heap.size w (w3.setCell ⟨w.heap.size, 9, none⟩ (.string i1)) := Below.setCell HW3.out (by exact Nat.le_refl _) _
    generalize (w3.setCell ⟨w.heap.size, 9, none⟩ (.string i1)) = s0 at hX0 hY0 hZ0 ⊢
    have hX1 : (s0.setCell ⟨w.heap.size, 8, none⟩ (.string o1)).heap[w.heap.size]? = some (.cells #[.int .i64 s.role, .int .i64 s.step, .int .i64 s.sent, .int .i64 s.got, .int .i64 s.prev, .int .i64 s.skip, .int .i64 s.cap, .string (str s.root), .string o1, .string i1, .int .i64 s.secret, .int .i64 s.peer, .slice aa nn cc] 84) := heap_setCell_same _ _ _ _ _ _ hX0
    have hY1 := (heap_setCell_other s0 ⟨w.heap.size, 8, none⟩ (w.heap.size + 1 + 1) (.string o1) (by show w.heap.size + 1 + 1 ≠ w.heap.size; omega)).trans hY0
    have hZ1 : Below w.heap.size w (s0.setCell ⟨w.heap.size, 8, none⟩ (.string o1)) := Below.setCell hZ0 (by exact Nat.le_refl _) _
    generalize (s0.setCell ⟨w.heap.size, 8, none⟩ (.string o1)) = s1 at hX1 hY1 hZ1 ⊢
    clear hX0 hY0 hZ0; have hX2 : (s1.setCell ⟨w.heap.size, 7, none⟩ (.string r2)).heap[w.heap.size]? = some (.cells #[.int .i64 s.role, .int .i64 s.step, .int .i64 s.sent, .int .i64 s.got, .int .i64 s.prev, .int .i64 s.skip, .int .i64 s.cap, .string r2, .string o1, .string i1, .int .i64 s.secret, .int .i64 s.peer, .slice aa nn cc] 84) := heap_setCell_same _ _ _ _ _ _ hX1
    have hY2 := (heap_setCell_other s1 ⟨w.heap.size, 7, none⟩ (w.heap.size + 1 + 1) (.string r2) (by show w.heap.size + 1 + 1 ≠ w.heap.size; omega)).trans hY1
    have hZ2 : Below w.heap.size w (s1.setCell ⟨w.heap.size, 7, none⟩ (.string r2)) := Below.setCell hZ1 (by exact Nat.le_refl _) _
    generalize (s1.setCell ⟨w.heap.size, 7, none⟩ (.string r2)) = s2 at hX2 hY2 hZ2 ⊢
    clear hX1 hY1 hZ1; have hX3 : (s2.setCell ⟨w.heap.size, 10, none⟩ (.int .i64 draw)).heap[w.heap.size]? = some (.cells #[.int .i64 s.role, .int .i64 s.step, .int .i64 s.sent, .int .i64 s.got, .int .i64 s.prev, .int .i64 s.skip, .int .i64 s.cap, .string r2, .string o1, .string i1, .int .i64 draw, .int .i64 s.peer, .slice aa nn cc] 84) := heap_setCell_same _ _ _ _ _ _ hX2
    have hY3 := (heap_setCell_other s2 ⟨w.heap.size, 10, none⟩ (w.heap.size + 1 + 1) (.int .i64 draw) (by show w.heap.size + 1 + 1 ≠ w.heap.size; omega)).trans hY2
    have hZ3 : Below w.heap.size w (s2.setCell ⟨w.heap.size, 10, none⟩ (.int .i64 draw)) := Below.setCell hZ2 (by exact Nat.le_refl _) _
    generalize (s2.setCell ⟨w.heap.size, 10, none⟩ (.int .i64 draw)) = s3 at hX3 hY3 hZ3 ⊢
    clear hX2 hY2 hZ2; have hX4 : (s3.setCell ⟨w.heap.size, 11, none⟩ (.int .i64 l.pub)).heap[w.heap.size]? = some (.cells #[.int .i64 s.role, .int .i64 s.step, .int .i64 s.sent, .int .i64 s.got, .int .i64 s.prev, .int .i64 s.skip, .int .i64 s.cap, .string r2, .string o1, .string i1, .int .i64 draw, .int .i64 l.pub, .slice aa nn cc] 84) := heap_setCell_same _ _ _ _ _ _ hX3
    have hY4 := (heap_setCell_other s3 ⟨w.heap.size, 11, none⟩ (w.heap.size + 1 + 1) (.int .i64 l.pub) (by show w.heap.size + 1 + 1 ≠ w.heap.size; omega)).trans hY3
    have hZ4 : Below w.heap.size w (s3.setCell ⟨w.heap.size, 11, none⟩ (.int .i64 l.pub)) := Below.setCell hZ3 (by exact Nat.le_refl _) _
    generalize (s3.setCell ⟨w.heap.size, 11, none⟩ (.int .i64 l.pub)) = s4 at hX4 hY4 hZ4 ⊢
    clear hX3 hY3 hZ3; have hX5 : (s4.setCell ⟨w.heap.size, 1, none⟩ (.int .i64 ((l.step : Int) + 1))).heap[w.heap.size]? = some (.cells #[.int .i64 s.role, .int .i64 ((l.step : Int) + 1), .int .i64 s.sent, .int .i64 s.got, .int .i64 s.prev, .int .i64 s.skip, .int .i64 s.cap, .string r2, .string o1, .string i1, .int .i64 draw, .int .i64 l.pub, .slice aa nn cc] 84) := heap_setCell_same _ _ _ _ _ _ hX4
    have hY5 : (s4.setCell ⟨w.heap.size, 1, none⟩ (.int .i64 ((l.step : Int) + 1))).heap[w.heap.size + 1 + 1]? = some (.cells #[.int .i64 0, .int .i64 0, .int .i64 0, .int .i64 0, .int .i64 0, .int .i64 0, .int .i64 0, .string ⟨#[]⟩, .string ⟨#[]⟩, .string ⟨#[]⟩, .int .i64 0, .int .i64 0, .slice none 0 0] 84) := (heap_setCell_other _ _ _ _ (by show w.heap.size + 1 + 1 ≠ w.heap.size; omega)).trans hY4
    have hZ5 : Below w.heap.size w (s4.setCell ⟨w.heap.size, 1, none⟩ (.int .i64 ((l.step : Int) + 1))) := Below.setCell hZ4 (by exact Nat.le_refl _) _
    generalize (s4.setCell ⟨w.heap.size, 1, none⟩ (.int .i64 ((l.step : Int) + 1))) = s5 at hX5 hY5 hZ5 ⊢
    clear hX4 hY4 hZ4; have hX6 : (s5.setCell ⟨w.heap.size, 4, none⟩ (.int .i64 s.sent)).heap[w.heap.size]? = some (.cells #[.int .i64 s.role, .int .i64 ((l.step : Int) + 1), .int .i64 s.sent, .int .i64 s.got, .int .i64 s.sent, .int .i64 s.skip, .int .i64 s.cap, .string r2, .string o1, .string i1, .int .i64 draw, .int .i64 l.pub, .slice aa nn cc] 84) := heap_setCell_same _ _ _ _ _ _ hX5
    have hY6 := (heap_setCell_other s5 ⟨w.heap.size, 4, none⟩ (w.heap.size + 1 + 1) (.int .i64 s.sent) (by show w.heap.size + 1 + 1 ≠ w.heap.size; omega)).trans hY5
    have hZ6 : Below w.heap.size w (s5.setCell ⟨w.heap.size, 4, none⟩ (.int .i64 s.sent)) := Below.setCell hZ5 (by exact Nat.le_refl _) _
    generalize (s5.setCell ⟨w.heap.size, 4, none⟩ (.int .i64 s.sent)) = s6 at hX6 hY6 hZ6 ⊢
    clear hX5 hY5 hZ5; have hX7 : (s6.setCell ⟨w.heap.size, 2, none⟩ (.int .i64 0)).heap[w.heap.size]? = some (.cells #[.int .i64 s.role, .int .i64 ((l.step : Int) + 1), .int .i64 0, .int .i64 s.got, .int .i64 s.sent, .int .i64 s.skip, .int .i64 s.cap, .string r2, .string o1, .string i1, .int .i64 draw, .int .i64 l.pub, .slice aa nn cc] 84) := heap_setCell_same _ _ _ _ _ _ hX6
    have hY7 := (heap_setCell_other s6 ⟨w.heap.size, 2, none⟩ (w.heap.size + 1 + 1) (.int .i64 0) (by show w.heap.size + 1 + 1 ≠ w.heap.size; omega)).trans hY6
    have hZ7 : Below w.heap.size w (s6.setCell ⟨w.heap.size, 2, none⟩ (.int .i64 0)) := Below.setCell hZ6 (by exact Nat.le_refl _) _
    generalize (s6.setCell ⟨w.heap.size, 2, none⟩ (.int .i64 0)) = s7 at hX7 hY7 hZ7 ⊢
    clear hX6 hY6 hZ6; have hX8 : (s7.setCell ⟨w.heap.size, 3, none⟩ (.int .i64 0)).heap[w.heap.size]? = some (.cells #[.int .i64 s.role, .int .i64 ((l.step : Int) + 1), .int .i64 0, .int .i64 0, .int .i64 s.sent, .int .i64 s.skip, .int .i64 s.cap, .string r2, .string o1, .string i1, .int .i64 draw, .int .i64 l.pub, .slice aa nn cc] 84) := heap_setCell_same _ _ _ _ _ _ hX7
    have hY8 := (heap_setCell_other s7 ⟨w.heap.size, 3, none⟩ (w.heap.size + 1 + 1) (.int .i64 0) (by show w.heap.size + 1 + 1 ≠ w.heap.size; omega)).trans hY7
    have hZ8 : Below w.heap.size w (s7.setCell ⟨w.heap.size, 3, none⟩ (.int .i64 0)) := Below.setCell hZ7 (by exact Nat.le_refl _) _
    generalize (s7.setCell ⟨w.heap.size, 3, none⟩ (.int .i64 0)) = wz at hX8 hY8 hZ8 ⊢
    clear hX7 hY7 hZ7; have hX := hX8; have hY := hY8; have hZ := hZ8; clear hX8 hY8 hZ8; obtain ⟨u0, u1, u2, u3, u4, u5, u6, u7, u8, u9, u10, u11, u12⟩ := cells13 hX; obtain ⟨a0, a1, a2, a3, a4, a5, a6, a7, a8, a9, a10, a11, a12⟩ := cells13 hY
    have fA : ∀ j, wz.frozen? ⟨w.heap.size + 1 + 1, j, none⟩ = false := fun j => frozen_of_row wz _ j _ _ hY
    have HZ := hid hZ; clear hX hY hZ fB HB3 HR3 HW3 q0 q3 z1 z2 z3 z4 z7 z8 z9 z10 z11; go_wp2
    (try simp only [Exit.inBlock, Exit.then])
    refine bodyPost_ret (v := .agg #[.int .i64 s.role, .int .i64 ((l.step : Int) + 1), .int .i64 0, .int .i64 0, .int .i64 s.sent, .int .i64 s.skip, .int .i64 s.cap, .string r2, .string o1, .string i1, .int .i64 draw, .int .i64 l.pub, .slice aa nn cc]) ?_ ?_ ?_
    · simp [results, go_sem, a0, a1, a2, a3, a4, a5, a6, a7, a8, a9, a10, a11, a12]
    · rfl
    · refine ⟨by rw [HF.out], ?_⟩
      repeat (with_reducible refine Below.setCell ?_ (by show w.heap.size ≤ w.heap.size + 1 + 1; omega) _)
      exact HZ.out
def TakeOut (r : Int × List UInt8 × StM) (A : Nat → Prop) (w' : World) (e : Ending) : Prop :=
  (r.1 ≠ 0 ∧ e = .returned (.tuple #[.string ⟨#[]⟩, .agg #[.int .i64 0, .int .i64 0, .int .i64 0, .int .i64 0, .int .i64 0, .int .i64 0, .int .i64 0, .string ⟨#[]⟩, .string ⟨#[]⟩, .string ⟨#[]⟩, .int .i64 0, .int .i64 0, .slice none 0 0], .int .i64 r.1])) ∨ (r.1 = 0 ∧ ∃ (a : Option Addr) (n c : Nat), e = .returned (.tuple #[.string (str r.2.1), .agg (stCells r.2.2 (.slice a n c)), .int .i64 0]) ∧ EntsAt w' (.slice a n c) r.2.2.kept ∧ Off A (.slice a n c))
def dueR (s : StM) (count : Nat) : Int × List UInt8 × StM := if skipBad s count then (17, [], s) else (0, dueKey s count, dueS s count)
theorem dueT_any (s : StM) (aa : Option Addr) (nn cc : Nat) (l : LetM) (A : Nat → Prop) (w : World) (h1 : 1 ≤ s.step) (h255 : s.step ≤ 255) (hc : l.count ≤ 254) (hl : s.kept.length ≤ 255) (hin : s.inn.length = 8) (hv : EntsAt w (.slice aa nn cc) s.kept) (ho : Off A (.slice aa nn cc)) (hA : ∀ g, A g → g < w.heap.size) :
    Calls Try.prog 89 #[.agg #[.int .i64 s.role, .int .i64 s.step, .int .i64 s.sent, .int .i64 s.got, .int .i64 s.prev, .int .i64 s.skip, .int .i64 s.cap, .string (str s.root), .string (str s.out), .string (str s.inn), .int .i64 s.secret, .int .i64 s.peer, .slice aa nn cc], .agg #[.int .i64 l.step, .int .i64 l.count, .int .i64 l.prev, .int .i64 l.pub, .string (str l.head), .string (str l.body)]] w fun e w' => TakeOut (dueR s l.count) A w' e ∧ Below w.heap.size w w' := by
  refine (due_any s aa nn cc l A w h1 h255 hc hl hin hv ho hA).mono ?_
  rintro e w' ⟨q, hb⟩
  refine ⟨?_, hb⟩
  rcases q with ⟨hb, he⟩ | ⟨hb, a, n, c, he, hE, hO⟩
  · rw [dueR, if_pos hb]; exact .inl ⟨by simp, he⟩
  · rw [dueR, if_neg hb]; exact .inr ⟨rfl, a, n, c, he, hE, hO⟩
def oldR (s : StM) (l : LetM) : Int × List UInt8 × StM := match s.kept.find? (isEnt l.step l.count) with
  | none => (16, [], s)
  | some e => (0, e.key, { s with kept := s.kept.filter fun e => !isEnt l.step l.count e })
theorem old_any (s : StM) (aa : Option Addr) (nn cc : Nat) (l : LetM) (A : Nat → Prop) (w : World) (hl : s.kept.length ≤ 255) (hv : EntsAt w (.slice aa nn cc) s.kept) (ho : Off A (.slice aa nn cc)) (hA : ∀ g, A g → g < w.heap.size) :
    Calls Try.prog 90 #[.agg #[.int .i64 s.role, .int .i64 s.step, .int .i64 s.sent, .int .i64 s.got, .int .i64 s.prev, .int .i64 s.skip, .int .i64 s.cap, .string (str s.root), .string (str s.out), .string (str s.inn), .int .i64 s.secret, .int .i64 s.peer, .slice aa nn cc], .agg #[.int .i64 l.step, .int .i64 l.count, .int .i64 l.prev, .int .i64 l.pub, .string (str l.head), .string (str l.body)]] w fun e w' => TakeOut (oldR s l) A w' e ∧ Below w.heap.size w w' := by
  have HA : Hid (∀ g, A g → g < w.heap.size) := hA
  have cf := fun w hv => talkFind_any s.kept (.slice aa nn cc) l.step l.count w hv (by omega)
  have cw := fun w hv => without_any s.kept (.slice aa nn cc) l.step l.count w hv (by omega)
  go_enter Try.func90, Try.ntmps90
  go_upto_region 1 with fail
  obtain ⟨wb, ewb, hB, hL, hR, hW, hlt⟩ := alloc3e w (.cells #[.int .i64 s.role, .int .i64 s.step, .int .i64 s.sent, .int .i64 s.got, .int .i64 s.prev, .int .i64 s.skip, .int .i64 s.cap, .string (str s.root), .string (str s.out), .string (str s.inn), .int .i64 s.secret, .int .i64 s.peer, .slice aa nn cc] 84) (.cells #[.int .i64 l.step, .int .i64 l.count, .int .i64 l.prev, .int .i64 l.pub, .string (str l.head), .string (str l.body)] 96) (.cells #[.int .i64 0, .int .i64 0, .int .i64 0, .int .i64 0, .int .i64 0, .int .i64 0, .int .i64 0, .string ⟨#[]⟩, .string ⟨#[]⟩, .string ⟨#[]⟩, .int .i64 0, .int .i64 0, .slice none 0 0] 84); rw [← ewb]; clear ewb; have HB := hid hB; have HL := hid hL; have HR := hid hR; have HW := hid hW; have HV : Hid (EntsAt wb (.slice aa nn cc) s.kept) := hv.next hW; have k12 : wb.cell? ⟨w.heap.size, 12, none⟩ = some (.slice aa nn cc) := cell_of_row wb _ 12 _ _ _ hB; have q0 : wb.cell? ⟨w.heap.size + 1, 0, none⟩ = some (.int .i64 l.step) := cell_of_row wb _ 0 _ _ _ hL; have q1 : wb.cell? ⟨w.heap.size + 1, 1, none⟩ = some (.int .i64 l.count) := cell_of_row wb _ 1 _ _ _ hL; clear hB hL hW hv ho hA
  cases hf : s.kept.find? (isEnt l.step l.count) with
  | none =>
    rw [hf] at cf
    have HO : Hid (oldR s l = (16, [], s)) := by
      show _ = _
      rw [oldR, hf]
    have cf' : ∀ w, EntsAt w (.slice aa nn cc) s.kept → Calls Try.prog 99 #[.slice aa nn cc, .int .i64 l.step, .int .i64 l.count] w fun e w' => e = .returned (.tuple #[.string ⟨#[]⟩, .bool false]) ∧ w' = w := cf
    obtain ⟨a0, a1, a2, a3, a4, a5, a6, a7, a8, a9, a10, a11, a12⟩ := cells13 hR
    have fA : ∀ j, wb.frozen? ⟨w.heap.size + 1 + 1, j, none⟩ = false := fun j => frozen_of_row wb _ j _ _ hR
    have hlt2 : w.heap.size + 1 + 1 < wb.heap.size := by omega
    clear cf hf cw hR
    go_upto_region 3 with (first | (go_at_call 99; (with_reducible refine (cf' _ HV.out).mono ?_); rintro e w' ⟨rfl, hw⟩; rw [hw]; clear hw w'))
    go_wp2
    (try simp only [Exit.inBlock, Exit.then])
    refine bodyPost_ret (v := .tuple #[.string ⟨#[]⟩, .agg #[.int .i64 0, .int .i64 0, .int .i64 0, .int .i64 0, .int .i64 0, .int .i64 0, .int .i64 0, .string ⟨#[]⟩, .string ⟨#[]⟩, .string ⟨#[]⟩, .int .i64 0, .int .i64 0, .slice none 0 0], .int .i64 16]) ?_ ?_ ?_
    · rw [results_tct (fn := Try.f90) rfl]; simp [go_sem, hlt2, a0, a1, a2, a3, a4, a5, a6, a7, a8, a9, a10, a11, a12]
    · rfl
    · refine ⟨by rw [HO.out]; exact .inl ⟨by simp, rfl⟩, ?_⟩
      have hw := HW.out
      repeat (first | (with_reducible refine Below.setCell ?_ (by show w.heap.size ≤ w.heap.size + 1 + 1; omega) _) | (with_reducible refine Below.alloc ?_ (by simp; omega) _))
      exact hw
  | some en =>
    rw [hf] at cf
    have HO : Hid (oldR s l = (0, en.key, { s with kept := s.kept.filter fun e => !isEnt l.step l.count e })) := by
      show _ = _
      rw [oldR, hf]
    have cf' : ∀ w, EntsAt w (.slice aa nn cc) s.kept → Calls Try.prog 99 #[.slice aa nn cc, .int .i64 l.step, .int .i64 l.count] w fun e w' => e = .returned (.tuple #[.string (str en.key), .bool true]) ∧ w' = w := cf
    generalize hfl : (s.kept.filter fun e => !isEnt l.step l.count e) = fl at *
    clear cf hf hR
    go_upto_region 5 with (first | (go_at_call 99; (with_reducible refine (cf' _ HV.out).mono ?_); rintro e w' ⟨rfl, hw⟩; rw [hw]; clear hw w') | (go_at_call 100; (with_reducible refine (cw _ HV.out).mono ?_); rintro e w2 ⟨⟨v2, rfl, hown⟩, hb2⟩; obtain ⟨a, n, c, hvv⟩ := ownsK_form hown; subst hvv; have hB2 := (hb2.block w.heap.size (by omega)).trans HB.out; have hR2 := (hb2.block (w.heap.size + 1 + 1) (by omega)).trans HR.out; have z12 : w2.cell? ⟨w.heap.size, 12, none⟩ = some (.slice aa nn cc) := cell_of_row w2 _ 12 _ _ _ hB2; have fB : ∀ j, w2.frozen? ⟨w.heap.size, j, none⟩ = false := fun j => frozen_of_row w2 _ j _ _ hB2; have HB2 := hid hB2; have HR2 := hid hR2; have HW2 : Hid (Below w.heap.size w w2) := below_tr HW.out hb2; have HOW := hid hown; clear hB2 hR2 hb2 hown))
    have hX : (w2.setCell ⟨w.heap.size, 12, none⟩ (.slice a n c)).heap[w.heap.size]? = some (.cells #[.int .i64 s.role, .int .i64 s.step, .int .i64 s.sent, .int .i64 s.got, .int .i64 s.prev, .int .i64 s.skip, .int .i64 s.cap, .string (str s.root), .string (str s.out), .string (str s.inn), .int .i64 s.secret, .int .i64 s.peer, .slice a n c] 84) := heap_setCell_same _ _ _ _ _ _ HB2.out
    have hY := (heap_setCell_other w2 ⟨w.heap.size, 12, none⟩ (w.heap.size + 1 + 1) (.slice a n c) (by show w.heap.size + 1 + 1 ≠ w.heap.size; omega)).trans HR2.out
    have hO : (w2.setCell ⟨w.heap.size, 12, none⟩ (.slice a n c)).ownsRow wb.heap.size 142 3 (.slice a n c) fl.length (entsCells fl) := ownsRow_setCell_below HOW.out (by show w.heap.size < _; omega) _
    have hZ : Below w.heap.size w (w2.setCell ⟨w.heap.size, 12, none⟩ (.slice a n c)) := HW2.out.setCell (by exact Nat.le_refl _) _
    generalize (w2.setCell ⟨w.heap.size, 12, none⟩ (.slice a n c)) = wz at hX hY hO hZ ⊢
    obtain ⟨u0, u1, u2, u3, u4, u5, u6, u7, u8, u9, u10, u11, u12⟩ := cells13 hX; obtain ⟨a0, a1, a2, a3, a4, a5, a6, a7, a8, a9, a10, a11, a12⟩ := cells13 hY
    have fA : ∀ j, wz.frozen? ⟨w.heap.size + 1 + 1, j, none⟩ = false := fun j => frozen_of_row wz _ j _ _ hY
    have HZ := hid hZ; have HOZ := hid hO
    have HFL : Hid ((s.kept.filter fun e => !isEnt l.step l.count e) = fl) := hfl
    clear hX hY hO hZ hfl HB2 HR2 HW2 HOW z12 fB cw cf'
    go_region
    all_goals go_wp2
    all_goals (try simp only [Exit.inBlock, Exit.then])
    all_goals (refine bodyPost_ret (v := .tuple #[.string (str en.key), .agg #[.int .i64 s.role, .int .i64 s.step, .int .i64 s.sent, .int .i64 s.got, .int .i64 s.prev, .int .i64 s.skip, .int .i64 s.cap, .string (str s.root), .string (str s.out), .string (str s.inn), .int .i64 s.secret, .int .i64 s.peer, .slice a n c], .int .i64 0]) ?_ ?_ ?_)
    all_goals first
      | rfl
      | (rw [results_tct (fn := Try.f90) rfl]; simp [go_sem, a0, a1, a2, a3, a4, a5, a6, a7, a8, a9, a10, a11, a12])
      | (refine ⟨?_, ?_⟩
         · rw [HO.out]
           refine .inr ⟨rfl, a, n, c, rfl, ?_, Off.own HOZ.out (fun g hg => by have := HA.out g hg; omega)⟩
           show EntsAt _ _ fl
           refine EntsAt.of_own (base := wb.heap.size) (e := 142) ?_
           repeat (first | (with_reducible refine ownsRow_setCell_below ?_ (by show w.heap.size + 1 + 1 < wb.heap.size; omega) _) | (with_reducible refine ownsRow_drew ?_))
           exact HOZ.out
         · repeat (first | (with_reducible refine Below.setCell ?_ (by show w.heap.size ≤ w.heap.size + 1 + 1; omega) _) | (with_reducible refine Below.drew ?_))
           exact HZ.out)
end Go.Proofs.Ytabpkohcimiceab
