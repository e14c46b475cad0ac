import Derived.Test.YtabpkohcimiceaaBoxF
import Derived.Test.YtabpkohcimiceaaBoxW
import Derived.WalkKit
import Derived.WalkSpells
import Derived.WalkLawsBesides
import Derived.Deep.QuietTactic
import Derived.BigQuiet
import Derived.Laws.ResultCell
namespace Go.Proofs.Ytabpkohcimiceaa
open Go.RowKit
set_option linter.unusedVariables false

/-! ### A new box -/
def newS (role skip cap peer : Nat) (sec : List UInt8) (draw : Nat) : StM :=
  if role = 1 then { role := 1, step := 0, sent := 0, got := 0, prev := 0, skip := skip, cap := cap, root := sec, out := noneL, inn := noneL, secret := draw, peer := 0, kept := [] }
  else { role := 0, step := 1, sent := 0, got := 0, prev := 0, skip := skip, cap := cap, root := rootL sec (pwN peer draw), out := chainL sec (pwN peer draw), inn := noneL, secret := draw, peer := peer, kept := [] }
theorem newS_ok (role skip cap peer draw : Nat) (sec : List UInt8) (h1 : skip ≤ 12) (h2 : cap ≤ 30) (h3 : sec.length = 8) (h4 : draw < 4294967296) (h5 : peer < 4294967296) : StOk (newS role skip cap peer sec draw) := by
  rw [newS]
  split
  · exact ⟨by show 1 ≤ 255; omega, Nat.zero_le _, Nat.zero_le _, Nat.zero_le _, Nat.zero_le _, by show skip ≤ 255; omega, by show cap ≤ 255; omega, h3, rfl, rfl, h4, by show 0 < 4294967296; omega, Nat.zero_le _, by intro e he; simp at he⟩
  · exact ⟨Nat.zero_le _, by show 1 ≤ 255; omega, Nat.zero_le _, Nat.zero_le _, Nat.zero_le _, by show skip ≤ 255; omega, by show cap ≤ 255; omega, mixed_length _ _, mixed_length _ _, rfl, h4, h5, Nat.zero_le _, by intro e he; simp at he⟩
theorem newS_cap (role skip cap peer draw : Nat) (sec : List UInt8) : (newS role skip cap peer sec draw).cap = cap := by rw [newS]; split <;> rfl
theorem newS_kept (role skip cap peer draw : Nat) (sec : List UInt8) : (newS role skip cap peer sec draw).kept = [] := by rw [newS]; split <;> rfl

set_option maxRecDepth 100000 in
set_option maxHeartbeats 400000 in
theorem devIsSecret_any (x : Int) (w : World) : Calls Try.prog 53 #[.int .i64 x] w fun e w' => e = .returned (.bool (decide (Sec x))) ∧ w' = w := by
  by_cases h1 : 1 ≤ x
  · by_cases h2 : x ≤ 2147483645
    · rw [decide_eq_true (show Sec x from ⟨h1, h2⟩)]
      go_enter Try.func53, Try.ntmps53
      go_wp2
      go_ret
      exact ⟨rfl, rfl⟩
    · rw [decide_eq_false (fun h : Sec x => h2 h.2)]
      have h2' : decide (x ≤ 2147483645) = false := decide_eq_false h2
      go_enter Try.func53, Try.ntmps53
      go_wp2
      go_ret
      exact ⟨rfl, rfl⟩
  · rw [decide_eq_false (fun h : Sec x => h1 h.1)]
    go_enter Try.func53, Try.ntmps53
    go_wp2
    go_ret
    exact ⟨rfl, rfl⟩
set_option maxRecDepth 100000 in
set_option maxHeartbeats 400000 in
theorem devIsPublic_any (x : Int) (w : World) : Calls Try.prog 55 #[.int .i64 x] w fun e w' => e = .returned (.bool (decide (Pub x))) ∧ w' = w := by
  by_cases h1 : 1 ≤ x
  · by_cases h2 : x ≤ 2147483646
    · rw [decide_eq_true (show Pub x from ⟨h1, h2⟩)]
      go_enter Try.func55, Try.ntmps55
      go_wp2
      go_ret
      exact ⟨rfl, rfl⟩
    · rw [decide_eq_false (fun h : Pub x => h2 h.2)]
      have h2' : decide (x ≤ 2147483646) = false := decide_eq_false h2
      go_enter Try.func55, Try.ntmps55
      go_wp2
      go_ret
      exact ⟨rfl, rfl⟩
  · rw [decide_eq_false (fun h : Pub x => h1 h.1)]
    go_enter Try.func55, Try.ntmps55
    go_wp2
    go_ret
    exact ⟨rfl, rfl⟩

set_option maxRecDepth 100000 in
set_option maxHeartbeats 400000 in
theorem devShared_any (x y : Nat) (w : World) (hx : x < 2147483647) (hy : y < 2147483647) : Calls Try.prog 56 #[.int .i64 x, .int .i64 y] w fun e w' => e = .returned (.int .i64 (pwN y x)) ∧ w' = w := by
  have c1 := fun w => power_any y x w hy hx
  go_enter Try.func56, Try.ntmps56
  go_wp2_with (first | (go_at_call 113; refine (c1 _).mono ?_; rintro e w' ⟨rfl, hw⟩; rw [hw]; clear hw w'))
  go_ret
  exact ⟨rfl, rfl⟩

attribute [local go_sem] str_fourN_size
set_option maxRecDepth 100000 in
set_option maxHeartbeats 400000 in
theorem turn_any (r : ByteArray) (d : Nat) (w : World) (hr : r.size = 8) (hd : d < 4294967296) :
    Calls Try.prog 124 #[.string r, .int .i64 d] w fun e w' => e = .returned (.tuple #[.string (str (chainL r.data.toList d)), .string (str (rootL r.data.toList d))]) ∧ Below w.heap.size w w' := by
  have z4 : (str (fourN d)).size = 4 := rfl
  have hw1 := wrap_u32 d hd
  have c0 := fun w => text_nat d w hd
  have c1 := fun w => keysMix_any r ((⟨#[99]⟩ : ByteArray) ++ str (fourN d)) w (by rw [hr]; unfold maxLen; omega) (by rw [one_front_size, fourN_length]; omega)
  have c2 := fun w => keysMix_any r ((⟨#[114]⟩ : ByteArray) ++ str (fourN d)) w (by rw [hr]; unfold maxLen; omega) (by rw [one_front_size, fourN_length]; omega)
  rw [one_front] at c1 c2
  have tok1 : True := trivial
  go_enter Try.func124, Try.ntmps124
  go_wp2_with (first | (go_at_call 110; refine (c0 _).mono ?_; rintro e w1 ⟨rfl, x1, rfl⟩) | (go_at_call 51; have _t := tok1; refine (c1 _).mono ?_; rintro e w2 ⟨rfl, hb1⟩; clear tok1) | (go_at_call 51; refine (c2 _).mono ?_; rintro e w3 ⟨rfl, hb2⟩))
  go_ret2
  exact ⟨rfl, below_tr (below_tr ((Below.refl _ _).alloc (Nat.le_refl _) _) hb1) hb2⟩

/-- The zero box. -/
def zeroD13 : Array Value := #[.int .i64 0, .int .i64 0, .int .i64 0, .int .i64 0, .int .i64 0, .int .i64 0, .int .i64 0, .string ⟨#[]⟩, .string ⟨#[]⟩, .string ⟨#[]⟩, .int .i64 0, .int .i64 0, .slice none 0 0]
def cfgCells (role skip cap peer : Int) : Array Value := #[.int .i64 role, .int .i64 skip, .int .i64 cap, .int .i64 peer]
set_option maxRecDepth 100000 in
set_option maxHeartbeats 1000000 in
theorem new_any (role skip cap peer draw : Nat) (sec : ByteArray) (w : World) (hr : role ≤ 1) (h3 : sec.size = 8) (h4 : Sec draw) (h5 : role = 0 → Pub peer) :
    Calls Try.prog 79 #[.agg (cfgCells role skip cap peer), .string sec, .int .i64 draw] w fun e w' => e = .returned (.agg (stCells (newS role skip cap peer sec.data.toList draw) (.slice none 0 0))) ∧ Below w.heap.size w w' := by
  unfold cfgCells
  by_cases h1 : role = 1
  · subst h1
    have e : newS 1 skip cap peer sec.data.toList draw = { role := 1, step := 0, sent := 0, got := 0, prev := 0, skip := skip, cap := cap, root := sec.data.toList, out := noneL, inn := noneL, secret := draw, peer := 0, kept := [] } := by rw [newS, if_pos rfl]
    rw [e]
    clear e h5
    go_enter Try.func79, Try.ntmps79
    go_wp2
    (try simp only [Exit.inBlock, Exit.then])
    refine bodyPost_ret (v := .agg (stCells { role := 1, step := 0, sent := 0, got := 0, prev := 0, skip := skip, cap := cap, root := sec.data.toList, out := noneL, inn := noneL, secret := draw, peer := 0, kept := [] } (.slice none 0 0))) ?_ ?_ ?_
    · simp [results, go_sem, stCells, str_of]
      rfl
    · rfl
    · refine ⟨rfl, ?_⟩
      repeat (first | exact Below.refl _ _ | apply Below.drew | (refine Below.setCell ?_ (by simp) _) | (refine Below.alloc ?_ (by first | exact Nat.le_refl _ | (simp; done) | (simp; omega)) _))
  · obtain rfl : role = 0 := by omega
    obtain ⟨p1, p2⟩ := h5 rfl
    obtain ⟨q1, q2⟩ := h4
    have e : newS 0 skip cap peer sec.data.toList draw = { role := 0, step := 1, sent := 0, got := 0, prev := 0, skip := skip, cap := cap, root := rootL sec.data.toList (pwN peer draw), out := chainL sec.data.toList (pwN peer draw), inn := noneL, secret := draw, peer := peer, kept := [] } := by rw [newS, if_neg (by omega)]
    rw [e]
    have hpw := pwN_lt peer draw
    have c1 := fun w => devShared_any draw peer w (by omega) (by omega)
    have c2 := fun w => turn_any sec (pwN peer draw) w h3 (by omega)
    clear e h5 h1
    generalize pwN peer draw = dd at *
    generalize chainL sec.data.toList dd = ch at *
    generalize rootL sec.data.toList dd = ro at *
    go_enter Try.func79, Try.ntmps79
    go_upto_region 5 with (first | (go_at_call 56; refine (c1 _).mono ?_; rintro e w' ⟨rfl, hw⟩; rw [hw]; clear hw w') | (go_at_call 124; refine (c2 _).mono ?_; rintro e w2 ⟨rfl, hb2⟩))
    have hX : w2.heap[w.heap.size]? = some (.cells #[.int .i64 0, .int .i64 (skip : Int), .int .i64 (cap : Int), .int .i64 (peer : Int)] 48) ∧ w2.heap[w.heap.size + 1]? = some (.cells zeroD13 106) ∧ w2.heap[w.heap.size + 1 + 1]? = some (.cells #[.int .i64 0, .int .i64 0, .int .i64 0, .int .i64 0, .int .i64 0, .int .i64 (skip : Int), .int .i64 (cap : Int), .string sec, .string (str noneL), .string (str noneL), .int .i64 (draw : Int), .int .i64 0, .slice none 0 0] 106) := by
      refine ⟨?_, ?_, ?_⟩
      · refine (hb2.block _ (by simp; omega)).trans ?_
        exact ((Below.heap_alloc _ _ _ (by simp; omega)).trans (Below.heap_alloc _ _ _ (by simp))).trans (heap_alloc_new w _)
      · refine (hb2.block _ (by simp)).trans ?_
        refine (Below.heap_alloc _ _ _ (by simp)).trans ?_
        have := heap_alloc_new (w.alloc (.cells #[.int .i64 0, .int .i64 (skip : Int), .int .i64 (cap : Int), .int .i64 (peer : Int)] 48)) (.cells zeroD13 106)
        have e : (w.alloc (.cells #[.int .i64 0, .int .i64 (skip : Int), .int .i64 (cap : Int), .int .i64 (peer : Int)] 48)).heap.size = w.heap.size + 1 := by simp
        rw [e] at this
        exact this
      · refine (hb2.block _ (by simp)).trans ?_
        have := heap_alloc_new ((w.alloc (.cells #[.int .i64 0, .int .i64 (skip : Int), .int .i64 (cap : Int), .int .i64 (peer : Int)] 48)).alloc (.cells zeroD13 106)) (.cells #[.int .i64 0, .int .i64 0, .int .i64 0, .int .i64 0, .int .i64 0, .int .i64 (skip : Int), .int .i64 (cap : Int), .string sec, .string (str noneL), .string (str noneL), .int .i64 (draw : Int), .int .i64 0, .slice none 0 0] 106)
        have e : ((w.alloc (.cells #[.int .i64 0, .int .i64 (skip : Int), .int .i64 (cap : Int), .int .i64 (peer : Int)] 48)).alloc (.cells zeroD13 106)).heap.size = w.heap.size + 1 + 1 := by simp
        rw [e] at this
        exact this
    have HW : Hid (Below w.heap.size w w2) := by
      refine Below.trans ?_ (hb2.mono (by simp; omega))
      repeat (first | exact Below.refl _ _ | (refine Below.alloc ?_ (by first | exact Nat.le_refl _ | (simp; done) | (simp; omega)) _))
    obtain ⟨hC, hA, hB⟩ := hX
    have k3 : w2.cell? ⟨w.heap.size, 3, none⟩ = some (.int .i64 (peer : Int)) := cell_of_row w2 _ 3 _ _ _ hC
    have fA : ∀ j, w2.frozen? ⟨w.heap.size + 1, j, none⟩ = false := fun j => frozen_of_row w2 _ j _ _ hA
    have fB : ∀ j, w2.frozen? ⟨w.heap.size + 1 + 1, j, none⟩ = false := fun j => frozen_of_row w2 _ j _ _ hB
    have a0 : w2.cell? ⟨w.heap.size + 1, 0, none⟩ = some (.int .i64 0) := cell_of_row w2 _ 0 _ _ _ hA
    have a1 : w2.cell? ⟨w.heap.size + 1, 1, none⟩ = some (.int .i64 0) := cell_of_row w2 _ 1 _ _ _ hA
    have a2 : w2.cell? ⟨w.heap.size + 1, 2, none⟩ = some (.int .i64 0) := cell_of_row w2 _ 2 _ _ _ hA
    have a3 : w2.cell? ⟨w.heap.size + 1, 3, none⟩ = some (.int .i64 0) := cell_of_row w2 _ 3 _ _ _ hA
    have a4 : w2.cell? ⟨w.heap.size + 1, 4, none⟩ = some (.int .i64 0) := cell_of_row w2 _ 4 _ _ _ hA
    have a5 : w2.cell? ⟨w.heap.size + 1, 5, none⟩ = some (.int .i64 0) := cell_of_row w2 _ 5 _ _ _ hA
    have a6 : w2.cell? ⟨w.heap.size + 1, 6, none⟩ = some (.int .i64 0) := cell_of_row w2 _ 6 _ _ _ hA
    have a7 : w2.cell? ⟨w.heap.size + 1, 7, none⟩ = some (.string ⟨#[]⟩) := cell_of_row w2 _ 7 _ _ _ hA
    have a8 : w2.cell? ⟨w.heap.size + 1, 8, none⟩ = some (.string ⟨#[]⟩) := cell_of_row w2 _ 8 _ _ _ hA
    have a9 : w2.cell? ⟨w.heap.size + 1, 9, none⟩ = some (.string ⟨#[]⟩) := cell_of_row w2 _ 9 _ _ _ hA
    have a10 : w2.cell? ⟨w.heap.size + 1, 10, none⟩ = some (.int .i64 0) := cell_of_row w2 _ 10 _ _ _ hA
    have a11 : w2.cell? ⟨w.heap.size + 1, 11, none⟩ = some (.int .i64 0) := cell_of_row w2 _ 11 _ _ _ hA
    have a12 : w2.cell? ⟨w.heap.size + 1, 12, none⟩ = some (.slice none 0 0) := cell_of_row w2 _ 12 _ _ _ hA
    have b0 : w2.cell? ⟨w.heap.size + 1 + 1, 0, none⟩ = some (.int .i64 0) := cell_of_row w2 _ 0 _ _ _ hB
    have b1 : w2.cell? ⟨w.heap.size + 1 + 1, 1, none⟩ = some (.int .i64 0) := cell_of_row w2 _ 1 _ _ _ hB
    have b2 : w2.cell? ⟨w.heap.size + 1 + 1, 2, none⟩ = some (.int .i64 0) := cell_of_row w2 _ 2 _ _ _ hB
    have b3 : w2.cell? ⟨w.heap.size + 1 + 1, 3, none⟩ = some (.int .i64 0) := cell_of_row w2 _ 3 _ _ _ hB
    have b4 : w2.cell? ⟨w.heap.size + 1 + 1, 4, none⟩ = some (.int .i64 0) := cell_of_row w2 _ 4 _ _ _ hB
    have b5 : w2.cell? ⟨w.heap.size + 1 + 1, 5, none⟩ = some (.int .i64 (skip : Int)) := cell_of_row w2 _ 5 _ _ _ hB
    have b6 : w2.cell? ⟨w.heap.size + 1 + 1, 6, none⟩ = some (.int .i64 (cap : Int)) := cell_of_row w2 _ 6 _ _ _ hB
    have b7 : w2.cell? ⟨w.heap.size + 1 + 1, 7, none⟩ = some (.string sec) := cell_of_row w2 _ 7 _ _ _ hB
    have b8 : w2.cell? ⟨w.heap.size + 1 + 1, 8, none⟩ = some (.string (str noneL)) := cell_of_row w2 _ 8 _ _ _ hB
    have b9 : w2.cell? ⟨w.heap.size + 1 + 1, 9, none⟩ = some (.string (str noneL)) := cell_of_row w2 _ 9 _ _ _ hB
    have b10 : w2.cell? ⟨w.heap.size + 1 + 1, 10, none⟩ = some (.int .i64 (draw : Int)) := cell_of_row w2 _ 10 _ _ _ hB
    have b11 : w2.cell? ⟨w.heap.size + 1 + 1, 11, none⟩ = some (.int .i64 0) := cell_of_row w2 _ 11 _ _ _ hB
    have b12 : w2.cell? ⟨w.heap.size + 1 + 1, 12, none⟩ = some (.slice none 0 0) := cell_of_row w2 _ 12 _ _ _ hB
    clear hC hA hB hb2 c1 c2
    go_wp2
    (try simp only [Exit.inBlock, Exit.then])
    refine bodyPost_ret (v := .agg (stCells { role := 0, step := 1, sent := 0, got := 0, prev := 0, skip := skip, cap := cap, root := ro, out := ch, inn := noneL, secret := draw, peer := peer, kept := [] } (.slice none 0 0))) ?_ ?_ ?_
    · simp [results, go_sem, stCells, a0, a1, a2, a3, a4, a5, a6, a7, a8, a9, a10, a11, a12]
    · rfl
    · refine ⟨rfl, ?_⟩
      have hw := HW.out
      repeat (refine Below.setCell ?_ (by first | exact Nat.le_succ _ | exact Nat.le_add_right w.heap.size 2) _)
      exact hw
end Go.Proofs.Ytabpkohcimiceaa
