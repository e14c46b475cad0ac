import Derived.Test.YtabpkohcimiceabGreatMixR
import Derived.WalkKit
import Derived.WalkSpells
import Derived.WalkLawsBesides
import Derived.ProofKit
import Derived.OpenShut
import Derived.ShutString
namespace Go.Proofs.YtabpkohcimiceabGreat
open Go.RowKit
set_option linter.unusedVariables false

def mixErr (k s : ByteArray) : Int := if k.size = 8 then (if s.size ≤ 200 then 0 else 2) else 1
def mixOut (k s : ByteArray) : ByteArray := if k.size = 8 ∧ s.size ≤ 200 then str (mixed k.data.toList s.data.toList) else ⟨#[]⟩

set_option maxRecDepth 100000 in
set_option maxHeartbeats 400000 in
theorem pawlMix_any (k s : ByteArray) (w : World) (hk : k.size ≤ maxLen) (hs : s.size ≤ maxLen) :
    Calls Tryz.prog 40 #[.string k, .string s] w fun e w' => e = .returned (.tuple #[.string (mixOut k s), .int .i64 (mixErr k s)]) ∧ Below w.heap.size w w' := by
  by_cases h : k.size = 8
  · have h' : (k.size : Int) = 8 := by omega
    by_cases g : s.size ≤ 200
    · have e1 : mixOut k s = str (mixed k.data.toList s.data.toList) := by rw [mixOut, if_pos ⟨h, g⟩]
      have e2 : mixErr k s = 0 := by rw [mixErr, if_pos h, if_pos g]
      rw [e1, e2]
      clear e1 e2
      go_enter Tryz.func40, Tryz.ntmps40
      go_wp2_with (go_at_call 83; refine (keysMix_any k s _ hk (by omega)).mono ?_; rintro e w' ⟨rfl, hb⟩)
      go_ret2
      exact ⟨rfl, hb⟩
    · have e1 : mixOut k s = ⟨#[]⟩ := by rw [mixOut, if_neg (by omega)]
      have e2 : mixErr k s = 2 := by rw [mixErr, if_pos h, if_neg g]
      rw [e1, e2]
      clear e1 e2
      go_enter Tryz.func40, Tryz.ntmps40
      go_wp2
      go_ret2
      exact ⟨rfl, Below.refl _ _⟩
  · have e1 : mixOut k s = ⟨#[]⟩ := by rw [mixOut, if_neg (by omega)]
    have e2 : mixErr k s = 1 := by rw [mixErr, if_neg h]
    rw [e1, e2]
    clear e1 e2
    have h' : ¬ (k.size : Int) = 8 := by omega
    go_enter Tryz.func40, Tryz.ntmps40
    go_wp2
    go_ret2
    exact ⟨rfl, Below.refl _ _⟩

set_option maxRecDepth 100000 in
set_option maxHeartbeats 400000 in
theorem refMix_any (k s : ByteArray) (w : World) (hk : k.size ≤ maxLen) (hs : s.size ≤ maxLen) :
    Calls Tryz.prog 41 #[.string k, .string s] w fun e w' => e = .returned (.tuple #[.string (mixOut k s), .int .i64 (mixErr k s)]) ∧ Below w.heap.size w w' := by
  by_cases h : k.size = 8
  · have h' : (k.size : Int) = 8 := by omega
    by_cases g : s.size ≤ 200
    · have e1 : mixOut k s = str (mixed k.data.toList s.data.toList) := by rw [mixOut, if_pos ⟨h, g⟩]
      have e2 : mixErr k s = 0 := by rw [mixErr, if_pos h, if_pos g]
      rw [e1, e2]
      clear e1 e2
      go_enter Tryz.func41, Tryz.ntmps41
      go_wp2_with (go_at_call 84; refine (mixed_any k s _ h (by omega)).mono ?_; rintro e w' ⟨rfl, hb⟩)
      go_ret2
      exact ⟨rfl, hb⟩
    · have e1 : mixOut k s = ⟨#[]⟩ := by rw [mixOut, if_neg (by omega)]
      have e2 : mixErr k s = 2 := by rw [mixErr, if_pos h, if_neg g]
      rw [e1, e2]
      clear e1 e2
      go_enter Tryz.func41, Tryz.ntmps41
      go_wp2
      go_ret2
      exact ⟨rfl, Below.refl _ _⟩
  · have e1 : mixOut k s = ⟨#[]⟩ := by rw [mixOut, if_neg (by omega)]
    have e2 : mixErr k s = 1 := by rw [mixErr, if_neg h]
    rw [e1, e2]
    clear e1 e2
    have h' : ¬ (k.size : Int) = 8 := by omega
    go_enter Tryz.func41, Tryz.ntmps41
    go_wp2
    go_ret2
    exact ⟨rfl, Below.refl _ _⟩

theorem mixErr_bd (k s : ByteArray) : 0 ≤ mixErr k s ∧ mixErr k s ≤ 2 := by unfold mixErr; split <;> (try split) <;> omega

set_option maxRecDepth 100000 in
set_option maxHeartbeats 400000 in
theorem mixes_walk (a0 : ByteArray) (a1 : ByteArray) (w0 : a0.size ≤ maxLen) (w1 : a1.size ≤ maxLen) (w : World) :
    Calls Tryz.prog 13 #[.string a0, .string a1] w fun e w' => e = .returned (.bool true) ∧ Below w.heap.size w w' := by
  obtain ⟨b0, b1⟩ := mixErr_bd a0 a1
  go_enter Tryz.func13, Tryz.ntmps13
  go_wp2_with (first | (go_at_call 40; refine (pawlMix_any a0 a1 _ w0 w1).mono ?_; rintro e w' ⟨rfl, hb1⟩) | (go_at_call 41; refine (refMix_any a0 a1 _ w0 w1).mono ?_; rintro e w2 ⟨rfl, hb2⟩) | go_in)
  go_ret
  exact ⟨rfl, below_tr hb1 hb2⟩
end Go.Proofs.YtabpkohcimiceabGreat
