import Derived.Test.YtabpkohcimiceaaBoxS
import Derived.Test.YtabpkohcimiceaaBoxW
import Derived.WalkKit
import Derived.WalkSpells
import Derived.WalkLawsBesides
namespace Go.Proofs.Ytabpkohcimiceaa
open Go.RowKit
set_option linter.unusedVariables false

/-- A chain's key and the next root, of a root and a number. -/
def chainL (root : List UInt8) (d : Nat) : List UInt8 := mixed root (99 :: fourN d)
def rootL (root : List UInt8) (d : Nat) : List UInt8 := mixed root (114 :: fourN d)
theorem one_front (c : UInt8) (l : List UInt8) : ((⟨#[c]⟩ : ByteArray) ++ str l).data.toList = c :: l := by
  rw [ByteArray.data_append]; simp [str]
theorem one_front_size (c : UInt8) (l : List UInt8) : ((⟨#[c]⟩ : ByteArray) ++ str l).size = 1 + l.length := by
  rw [← len_list, one_front]; simp; omega

set_option maxRecDepth 100000 in
set_option maxHeartbeats 400000 in
theorem chains_any (r : ByteArray) (d : Nat) (w : World) (hr : r.size = 8) (hd : d < 4294967296) :
    Calls Try.prog 82 #[.string r, .int .i64 d] w fun e w' => e = .returned (.tuple #[.string (str (chainL r.data.toList d)), .string (str (rootL r.data.toList d))]) ∧ Below w.heap.size w w' := by
  have z4 : (str (fourN d)).size = 4 := rfl
  have c1 := fun w => mixed_any r ((⟨#[99]⟩ : ByteArray) ++ str (fourN d)) w hr (by rw [one_front_size, fourN_length]; omega)
  have c2 := fun w => mixed_any r ((⟨#[114]⟩ : ByteArray) ++ str (fourN d)) w hr (by rw [one_front_size, fourN_length]; omega)
  rw [one_front] at c1 c2
  have tok1 : True := trivial
  go_enter Try.func82, Try.ntmps82
  go_wp2_with (first | (go_at_call 101; refine (four_nat d _ hd).mono ?_; rintro e w1 ⟨rfl, x1, x2, x3, x4, rfl⟩) | (go_at_call 52; have _t := tok1; refine (c1 _).mono ?_; rintro e w2 ⟨rfl, hb1⟩; clear tok1) | (go_at_call 52; refine (c2 _).mono ?_; rintro e w3 ⟨rfl, hb2⟩))
  go_ret2
  refine ⟨rfl, ?_⟩
  refine below_tr (below_tr ?_ hb1) (below_tr ?_ hb2)
  all_goals repeat (first | exact Below.refl _ _ | (refine Below.alloc ?_ (by first | exact Nat.le_refl _ | (simp; done) | (simp; omega)) _))

/-- May a box be made with these numbers? -/
def Allow (role skip cap peer draw : Int) : Prop := Sec draw ∧ (0 ≤ skip ∧ skip ≤ 12 ∧ 0 ≤ cap ∧ cap ≤ 30) ∧ ((role = 0 ∧ Pub peer) ∨ (role = 1 ∧ peer = 0))
instance (role skip cap peer draw : Int) : Decidable (Allow role skip cap peer draw) := inferInstanceAs (Decidable (_ ∧ _))

set_option maxRecDepth 100000 in
set_option maxHeartbeats 1000000 in
theorem allowed_any (role skip cap peer draw : Int) (w : World) :
    Calls Try.prog 80 #[.int .i64 role, .int .i64 skip, .int .i64 cap, .int .i64 peer, .int .i64 draw] w fun e w' => e = .returned (.bool (decide (Allow role skip cap peer draw))) ∧ w' = w := by
  have cs := fun w => refIsSecret_any draw w
  have cp := fun w => refIsPublic_any peer w
  by_cases hA : Sec draw ∧ (0 ≤ skip ∧ skip ≤ 12 ∧ 0 ≤ cap ∧ cap ≤ 30)
  · obtain ⟨a1, a2, a3, a4, a5⟩ := hA
    rw [decide_eq_true a1] at cs
    have HE : Hid (∀ b : Bool, (b = true ↔ (role = 0 ∧ Pub peer) ∨ (role = 1 ∧ peer = 0)) → decide (Allow role skip cap peer draw) = b) := by
      intro b hb
      rw [Bool.eq_iff_iff, decide_eq_true_eq, hb]
      exact ⟨fun h => h.2.2, fun h => ⟨a1, ⟨a2, a3, a4, a5⟩, h⟩⟩
    have a2' : ¬ skip < 0 := by omega
    have a3' : ¬ 12 < skip := by omega
    have a4' : ¬ cap < 0 := by omega
    have a5' : ¬ 30 < cap := by omega
    clear a1
    by_cases r0 : role = 0
    · subst r0
      by_cases p : Pub peer
      · rw [decide_eq_true p] at cp
        have e1 : Hid (decide (Allow 0 skip cap peer draw) = true) := HE.out true (by simp [p])
        clear p
        go_enter Try.func80, Try.ntmps80
        go_wp2_with (first | (go_at_call 57; refine (cs _).mono ?_; rintro e w' ⟨rfl, hw⟩; rw [hw]; clear hw w') | (go_at_call 58; refine (cp _).mono ?_; rintro e w' ⟨rfl, hw⟩; rw [hw]; clear hw w'))
        go_ret
        exact ⟨by rw [e1.out]; rfl, rfl⟩
      · rw [decide_eq_false p] at cp
        have e1 : Hid (decide (Allow 0 skip cap peer draw) = false) := HE.out false (by simp [p])
        clear p
        go_enter Try.func80, Try.ntmps80
        go_wp2_with (first | (go_at_call 57; refine (cs _).mono ?_; rintro e w' ⟨rfl, hw⟩; rw [hw]; clear hw w') | (go_at_call 58; refine (cp _).mono ?_; rintro e w' ⟨rfl, hw⟩; rw [hw]; clear hw w'))
        go_ret
        exact ⟨by rw [e1.out]; rfl, rfl⟩
    · by_cases r1 : role = 1
      · subst r1
        by_cases p : peer = 0
        · subst p
          have e1 : Hid (decide (Allow 1 skip cap 0 draw) = true) := HE.out true (by simp)
          generalize decide (Pub 0) = bp at cp
          go_enter Try.func80, Try.ntmps80
          go_wp2_with (first | (go_at_call 57; refine (cs _).mono ?_; rintro e w' ⟨rfl, hw⟩; rw [hw]; clear hw w') | (go_at_call 58; refine (cp _).mono ?_; rintro e w' ⟨rfl, hw⟩; rw [hw]; clear hw w'))
          go_ret
          exact ⟨by rw [e1.out]; rfl, rfl⟩
        · have e1 : Hid (decide (Allow 1 skip cap peer draw) = false) := HE.out false (by simp [p])
          have p' : (peer == 0) = false := by rw [beq_eq_false_iff_ne]; exact p
          generalize decide (Pub peer) = bp at cp
          go_enter Try.func80, Try.ntmps80
          go_wp2_with (first | (go_at_call 57; refine (cs _).mono ?_; rintro e w' ⟨rfl, hw⟩; rw [hw]; clear hw w') | (go_at_call 58; refine (cp _).mono ?_; rintro e w' ⟨rfl, hw⟩; rw [hw]; clear hw w'))
          go_ret
          exact ⟨by rw [e1.out]; rfl, rfl⟩
      · have e1 : Hid (decide (Allow role skip cap peer draw) = false) := HE.out false (by simp [r0, r1])
        generalize decide (Pub peer) = bp at cp
        go_enter Try.func80, Try.ntmps80
        go_wp2_with (first | (go_at_call 57; refine (cs _).mono ?_; rintro e w' ⟨rfl, hw⟩; rw [hw]; clear hw w') | (go_at_call 58; refine (cp _).mono ?_; rintro e w' ⟨rfl, hw⟩; rw [hw]; clear hw w'))
        go_ret
        exact ⟨by rw [e1.out]; rfl, rfl⟩
  · have e1 : Hid (decide (Allow role skip cap peer draw) = false) := by
      show _ = _
      exact decide_eq_false (fun h => hA ⟨h.1, h.2.1⟩)
    generalize decide (Pub peer) = bp at cp
    by_cases q : Sec draw
    · rw [decide_eq_true q] at cs
      have hB : ¬ (0 ≤ skip ∧ skip ≤ 12 ∧ 0 ≤ cap ∧ cap ≤ 30) := fun h => hA ⟨q, h⟩
      clear hA q
      by_cases s1 : skip < 0
      · go_enter Try.func80, Try.ntmps80
        go_wp2_with (first | (go_at_call 57; refine (cs _).mono ?_; rintro e w' ⟨rfl, hw⟩; rw [hw]; clear hw w') | (go_at_call 58; refine (cp _).mono ?_; rintro e w' ⟨rfl, hw⟩; rw [hw]; clear hw w'))
        go_ret
        exact ⟨by rw [e1.out]; rfl, rfl⟩
      by_cases s2 : 12 < skip
      · clear hB
        go_enter Try.func80, Try.ntmps80
        go_wp2_with (first | (go_at_call 57; refine (cs _).mono ?_; rintro e w' ⟨rfl, hw⟩; rw [hw]; clear hw w') | (go_at_call 58; refine (cp _).mono ?_; rintro e w' ⟨rfl, hw⟩; rw [hw]; clear hw w'))
        go_ret
        exact ⟨by rw [e1.out]; rfl, rfl⟩
      by_cases s3 : cap < 0
      · clear hB
        go_enter Try.func80, Try.ntmps80
        go_wp2_with (first | (go_at_call 57; refine (cs _).mono ?_; rintro e w' ⟨rfl, hw⟩; rw [hw]; clear hw w') | (go_at_call 58; refine (cp _).mono ?_; rintro e w' ⟨rfl, hw⟩; rw [hw]; clear hw w'))
        go_ret
        exact ⟨by rw [e1.out]; rfl, rfl⟩
      have s4 : 30 < cap := by omega
      clear hB
      go_enter Try.func80, Try.ntmps80
      go_wp2_with (first | (go_at_call 57; refine (cs _).mono ?_; rintro e w' ⟨rfl, hw⟩; rw [hw]; clear hw w') | (go_at_call 58; refine (cp _).mono ?_; rintro e w' ⟨rfl, hw⟩; rw [hw]; clear hw w'))
      go_ret
      exact ⟨by rw [e1.out]; rfl, rfl⟩
    · rw [decide_eq_false q] at cs
      clear hA q
      go_enter Try.func80, Try.ntmps80
      go_wp2_with (first | (go_at_call 57; refine (cs _).mono ?_; rintro e w' ⟨rfl, hw⟩; rw [hw]; clear hw w') | (go_at_call 58; refine (cp _).mono ?_; rintro e w' ⟨rfl, hw⟩; rw [hw]; clear hw w'))
      go_ret
      exact ⟨by rw [e1.out]; rfl, rfl⟩
end Go.Proofs.Ytabpkohcimiceaa
