import Derived.Test.YtabpkohcimiceaaSendC
import Derived.Test.YtabpkohcimiceaaOpen
import Derived.Test.YtabpkohcimiceaaLaw
import Derived.WalkKit
import Derived.WalkSpells
import Derived.WalkLawsBesides
import Derived.OwnWalk
namespace Go.Proofs.Ytabpkohcimiceaa
open Go.RowKit
set_option linter.unusedVariables false

/-! ### pawl.Send, pawlref.Send -/
def sendErr (d t : List UInt8) : Int := if openErr d = 0 then (if 40 < t.length then 2 else if (heldS d).step = 0 then 13 else if 50 ≤ (heldS d).sent ∨ 30 ≤ (heldS d).step then 14 else 0) else openErr d
def sendLet (d t : List UInt8) : List UInt8 := if sendErr d t = 0 then letL (heldS d) t else []
def sendTo (d t : List UInt8) : List UInt8 := if sendErr d t = 0 then packL (sendS (heldS d)) (1 - liveL d) d.length else []
def sendPlan (d t : List UInt8) : List UInt8 := if sendErr d t = 0 then encL (rplR d (packL (sendS (heldS d)) (1 - liveL d) d.length) (heldS d).cap (liveL d)) else []
theorem sendErr_bd (d t : List UInt8) : 0 ≤ sendErr d t ∧ sendErr d t ≤ 14 := by
  have := open_pos d
  rw [sendErr]; repeat' split
  all_goals omega
/-- What holds where a letter is written. -/
theorem send_ok (d t : List UInt8) (h : sendErr d t = 0) : openErr d = 0 ∧ t.length ≤ 40 ∧ (heldS d).step ≠ 0 ∧ (heldS d).sent < 50 ∧ (heldS d).step < 30 := by
  rw [sendErr] at h
  by_cases h0 : openErr d = 0
  · rw [if_pos h0] at h
    split at h
    · omega
    · split at h
      · omega
      · split at h
        · omega
        · exact ⟨h0, by omega, by omega, by omega, by omega⟩
  · rw [if_neg h0] at h; exact absurd h h0

set_option maxRecDepth 100000 in
set_option maxHeartbeats 1000000 in
theorem pawlSend_bad (d t : ByteArray) (w : World) (hd : d.size ≤ maxLen) (h : openErr d.data.toList ≠ 0) :
    Calls Try.prog 46 #[.string d, .string t] w fun e w' => e = .returned (.tuple #[.string ⟨#[]⟩, .string ⟨#[]⟩, .int .i64 (openErr d.data.toList)]) ∧ Below w.heap.size w w' := by
  have hI : (openErr d.data.toList == 0) = false := by rw [beq_eq_false_iff_ne]; exact h
  have c1 : ∀ w, Calls Try.prog 96 #[.string d] w fun e w' => e = .returned (.tuple #[.agg zeroCells16, .int .i64 (openErr d.data.toList)]) ∧ Below w.heap.size w w' := by
    intro w
    refine (openDisk_any d w hd).mono ?_
    rintro e w' ⟨q, hb⟩
    rcases q with ⟨q, _⟩ | ⟨_, q⟩
    · exact absurd q h
    · exact ⟨q, hb⟩
  unfold zeroCells16 at c1
  generalize openErr d.data.toList = er at *
  go_enter Try.func46, Try.ntmps46
  go_wp2_with (first | (go_at_call 96; (with_reducible refine (c1 _).mono ?_); rintro e w1 ⟨rfl, hb1⟩))
  go_ret3
  exact ⟨rfl, hb1.alloc hb1.size _⟩

set_option maxRecDepth 100000 in
set_option maxHeartbeats 1000000 in
theorem pawlSend_err (d t : ByteArray) (w : World) (hd : d.size ≤ maxLen) (h : openErr d.data.toList = 0) (he : sendErr d.data.toList t.data.toList ≠ 0) :
    Calls Try.prog 46 #[.string d, .string t] w fun e w' => e = .returned (.tuple #[.string ⟨#[]⟩, .string ⟨#[]⟩, .int .i64 (sendErr d.data.toList t.data.toList)]) ∧ Below w.heap.size w w' := by
  have c1 : ∀ w, Calls Try.prog 96 #[.string d] w fun e w' => (∃ (a : Option Addr) (n c : Nat), e = .returned (.tuple #[.agg (stateCells 3 (repL d.data.toList) (liveL d.data.toList) (heldS d.data.toList) a n c), .int .i64 0]) ∧ w'.ownsRow w.heap.size 178 3 (.slice a n c) (heldS d.data.toList).kept.length (entsCells (heldS d.data.toList).kept)) ∧ Below w.heap.size w w' := by
    intro w
    refine (openDisk_any d w hd).mono ?_
    rintro e w' ⟨q, hb⟩
    rcases q with ⟨_, q⟩ | ⟨q, _⟩
    · exact ⟨q, hb⟩
    · exact absurd h q
  unfold stateCells at c1
  rw [sendErr, if_pos h, len_list] at *
  generalize str (repL d.data.toList) = rp at *
  generalize heldS d.data.toList = ss at *
  generalize liveL d.data.toList = lv at *
  clear h
  by_cases h40 : 40 < t.size
  · rw [if_pos h40] at *
    have i40 : (40 : Int) < (t.size : Int) := by omega
    clear he
    go_enter Try.func46, Try.ntmps46
    go_wp2_with (first | (go_at_call 96; (with_reducible refine (c1 _).mono ?_); rintro e w1 ⟨⟨aa, nn, cc, rfl, hown⟩, hb1⟩))
    go_ret3
    exact ⟨rfl, hb1.alloc hb1.size _⟩
  · rw [if_neg h40] at *
    have i40 : ¬ (40 : Int) < (t.size : Int) := by omega
    by_cases h0 : ss.step = 0
    · rw [if_pos h0] at *
      have i0 : (ss.step : Int) = 0 := by omega
      clear he
      go_enter Try.func46, Try.ntmps46
      go_wp2_with (first | (go_at_call 96; (with_reducible refine (c1 _).mono ?_); rintro e w1 ⟨⟨aa, nn, cc, rfl, hown⟩, hb1⟩))
      go_ret3
      exact ⟨rfl, hb1.alloc hb1.size _⟩
    · rw [if_neg h0] at *
      have i0 : ¬ (ss.step : Int) = 0 := by omega
      by_cases h50 : 50 ≤ ss.sent ∨ 30 ≤ ss.step
      · rw [if_pos h50] at *
        clear he
        by_cases j50 : 50 ≤ ss.sent
        · have k50 : (50 : Int) ≤ (ss.sent : Int) := by omega
          go_enter Try.func46, Try.ntmps46
          go_wp2_with (first | (go_at_call 96; (with_reducible refine (c1 _).mono ?_); rintro e w1 ⟨⟨aa, nn, cc, rfl, hown⟩, hb1⟩))
          go_ret3
          exact ⟨rfl, hb1.alloc hb1.size _⟩
        · have k50 : ¬ (50 : Int) ≤ (ss.sent : Int) := by omega
          have k30 : (30 : Int) ≤ (ss.step : Int) := by omega
          clear h50
          go_enter Try.func46, Try.ntmps46
          go_wp2_with (first | (go_at_call 96; (with_reducible refine (c1 _).mono ?_); rintro e w1 ⟨⟨aa, nn, cc, rfl, hown⟩, hb1⟩))
          go_ret3
          exact ⟨rfl, hb1.alloc hb1.size _⟩
      · rw [if_neg h50] at he; exact absurd rfl he

set_option maxRecDepth 100000 in
set_option maxHeartbeats 1000000 in
theorem refSend_bad (d t : ByteArray) (w : World) (hd : d.size ≤ maxLen) (h : openErr d.data.toList ≠ 0) :
    Calls Try.prog 47 #[.string d, .string t] w fun e w' => e = .returned (.tuple #[.string ⟨#[]⟩, .string ⟨#[]⟩, .int .i64 (openErr d.data.toList)]) ∧ Below w.heap.size w w' := by
  have hI : (openErr d.data.toList == 0) = false := by rw [beq_eq_false_iff_ne]; exact h
  have c1 : ∀ w, Calls Try.prog 86 #[.string d] w fun e w' => e = .returned (.tuple #[.agg zeroCells13, .int .i64 0, .int .i64 (openErr d.data.toList)]) ∧ Below w.heap.size w w' := by
    intro w
    refine (refOpen_any d w hd).mono ?_
    rintro e w' ⟨q, hb⟩
    rcases q with ⟨q, _⟩ | ⟨_, q⟩
    · exact absurd q h
    · exact ⟨q, hb⟩
  unfold zeroCells13 at c1
  generalize openErr d.data.toList = er at *
  go_enter Try.func47, Try.ntmps47
  go_wp2_with (first | (go_at_call 86; (with_reducible refine (c1 _).mono ?_); rintro e w1 ⟨rfl, hb1⟩))
  go_ret3
  exact ⟨rfl, hb1.alloc hb1.size _⟩

set_option maxRecDepth 100000 in
set_option maxHeartbeats 1000000 in
theorem refSend_err (d t : ByteArray) (w : World) (hd : d.size ≤ maxLen) (h : openErr d.data.toList = 0) (he : sendErr d.data.toList t.data.toList ≠ 0) :
    Calls Try.prog 47 #[.string d, .string t] w fun e w' => e = .returned (.tuple #[.string ⟨#[]⟩, .string ⟨#[]⟩, .int .i64 (sendErr d.data.toList t.data.toList)]) ∧ Below w.heap.size w w' := by
  have c1 : ∀ w, Calls Try.prog 86 #[.string d] w fun e w' => (∃ (a : Option Addr) (n c : Nat), e = .returned (.tuple #[.agg (stCells (heldS d.data.toList) (.slice a n c)), .int .i64 (liveL d.data.toList : Int), .int .i64 0]) ∧ w'.ownsRow w.heap.size 168 3 (.slice a n c) (heldS d.data.toList).kept.length (entsCells (heldS d.data.toList).kept)) ∧ Below w.heap.size w w' := by
    intro w
    refine (refOpen_any d w hd).mono ?_
    rintro e w' ⟨q, hb⟩
    rcases q with ⟨_, q⟩ | ⟨q, _⟩
    · exact ⟨q, hb⟩
    · exact absurd h q
  unfold stCells at c1
  rw [sendErr, if_pos h, len_list] at *
  skip
  generalize heldS d.data.toList = ss at *
  generalize liveL d.data.toList = lv at *
  clear h
  by_cases h40 : 40 < t.size
  · rw [if_pos h40] at *
    have i40 : (40 : Int) < (t.size : Int) := by omega
    clear he
    go_enter Try.func47, Try.ntmps47
    go_wp2_with (first | (go_at_call 86; (with_reducible refine (c1 _).mono ?_); rintro e w1 ⟨⟨aa, nn, cc, rfl, hown⟩, hb1⟩))
    go_ret3
    exact ⟨rfl, hb1.alloc hb1.size _⟩
  · rw [if_neg h40] at *
    have i40 : ¬ (40 : Int) < (t.size : Int) := by omega
    by_cases h0 : ss.step = 0
    · rw [if_pos h0] at *
      have i0 : (ss.step : Int) = 0 := by omega
      clear he
      go_enter Try.func47, Try.ntmps47
      go_wp2_with (first | (go_at_call 86; (with_reducible refine (c1 _).mono ?_); rintro e w1 ⟨⟨aa, nn, cc, rfl, hown⟩, hb1⟩))
      go_ret3
      exact ⟨rfl, hb1.alloc hb1.size _⟩
    · rw [if_neg h0] at *
      have i0 : ¬ (ss.step : Int) = 0 := by omega
      by_cases h50 : 50 ≤ ss.sent ∨ 30 ≤ ss.step
      · rw [if_pos h50] at *
        clear he
        by_cases j50 : 50 ≤ ss.sent
        · have k50 : (50 : Int) ≤ (ss.sent : Int) := by omega
          go_enter Try.func47, Try.ntmps47
          go_wp2_with (first | (go_at_call 86; (with_reducible refine (c1 _).mono ?_); rintro e w1 ⟨⟨aa, nn, cc, rfl, hown⟩, hb1⟩))
          go_ret3
          exact ⟨rfl, hb1.alloc hb1.size _⟩
        · have k50 : ¬ (50 : Int) ≤ (ss.sent : Int) := by omega
          have k30 : (30 : Int) ≤ (ss.step : Int) := by omega
          clear h50
          go_enter Try.func47, Try.ntmps47
          go_wp2_with (first | (go_at_call 86; (with_reducible refine (c1 _).mono ?_); rintro e w1 ⟨⟨aa, nn, cc, rfl, hown⟩, hb1⟩))
          go_ret3
          exact ⟨rfl, hb1.alloc hb1.size _⟩
      · rw [if_neg h50] at he; exact absurd rfl he
end Go.Proofs.Ytabpkohcimiceaa
