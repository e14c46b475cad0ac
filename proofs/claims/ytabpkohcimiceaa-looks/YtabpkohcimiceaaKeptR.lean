import Derived.Test.YtabpkohcimiceaaBoxS
import Derived.WalkKit
import Derived.WalkSpells
import Derived.WalkLawsBesides
import Derived.Deep.RegionHeld3
import Derived.Deep.DeepMust
import Derived.Deep.DrawnRows
import Derived.Deep.DeepCutAuto
namespace Go.Proofs.Ytabpkohcimiceaa
open Go.RowKit
set_option linter.unusedVariables false
attribute [local go_sem ↓] Go.wp_at_zero Go.wp_at_succ
attribute [local go_sem] str_one_size

def lettersL : List EntM → List UInt8
  | [] => []
  | e :: l => [UInt8.ofNat e.step, UInt8.ofNat e.count] ++ lettersL l
theorem lettersL_append (a b : List EntM) : lettersL (a ++ b) = lettersL a ++ lettersL b := by
  induction a with
  | nil => rfl
  | cons e a ih => rw [List.cons_append, lettersL, lettersL, ih, List.append_assoc]
theorem lettersL_take (l : List EntM) (i : Nat) (h : i < l.length) : lettersL (l.take (i + 1)) = lettersL (l.take i) ++ [UInt8.ofNat (l.getD i default).step, UInt8.ofNat (l.getD i default).count] := by
  rw [take_succ_getD l default i h, lettersL_append]; simp [lettersL]

set_option maxRecDepth 100000 in
set_option maxHeartbeats 1000000 in
theorem refKept_any (s : StM) (v : Value) (w : World) (o12 : s.kept.length ≤ 255) (o13 : ∀ e ∈ s.kept, e.step ≤ 255 ∧ e.count ≤ 255 ∧ e.key.length = 8) (hv : EntsAt w v s.kept) :
    Calls Try.prog 87 #[.agg (stCells s v)] w fun e w' => e = .returned (.string (str (lettersL s.kept))) ∧ Below w.heap.size w w' := by
  obtain ⟨a, cap, hva⟩ := hv.form
  subst hva
  have hst := StAt.made w s (.slice a s.kept.length cap)
  have hbl : Below w.heap.size w (w.alloc (.cells (stCells s (.slice a s.kept.length cap)) 111)) := (Below.refl _ _).alloc (Nat.le_refl _) _
  go_enter Try.func87, Try.ntmps87
  go_upto_region 1 with fail
  generalize w.alloc (.cells (stCells s (.slice a s.kept.length cap)) 111) = wb at hst hbl ⊢
  obtain ⟨B, hB⟩ : ∃ B, B = w.heap.size := ⟨_, rfl⟩
  rw [← hB] at hst ⊢
  have HW : Hid (Below w.heap.size w wb) := hbl
  have HS : Hid (StAt wb B s (.slice a s.kept.length cap)) := hst
  have HV : Hid (EntsAt wb (.slice a s.kept.length cap) s.kept) := hv.next hbl
  clear hB hbl hv hst
  go_wp2
  go_loopg [3, 4] (s.kept.length + 1) (fun g t c wr => ∃ i : Nat, ∃ m : ByteArray, c = .int .i64 i ∧ t = .string m ∧ i ≤ s.kept.length ∧ g + i = s.kept.length + 1 ∧ m.size = 2 * i ∧ m = str (lettersL (s.kept.take i)) ∧ Below wb.heap.size wb wr)
  case atStart => exact ⟨0, _, rfl, rfl, by omega, by omega, rfl, rfl, Below.refl _ _⟩
  case round =>
    obtain ⟨i, m, rfl, rfl, hi, hg, hms, hm, hbr⟩ := hrel
    have HM : Hid (m = str (lettersL (s.kept.take i))) := hm
    have HR : Hid (Below wb.heap.size wb wr) := hbr
    have hst2 := HS.out.next hbr
    have hv2 := HV.out.next hbr
    clear hm hbr
    by_cases hlt : i < s.kept.length
    · obtain ⟨g, cap', hv', hc, hgs, e0, e1, e2⟩ := hv2.cells hlt
      injection hv' with q1 q2 q3
      subst q1 q3
      obtain ⟨k1, k2, k3⟩ := o13 (s.kept.getD i default) (by rw [List.getD_eq_getElem?_getD, List.getElem?_eq_getElem hlt]; exact List.getElem_mem _)
      have het := lettersL_take s.kept i hlt
      generalize s.kept.getD i default = en at e0 e1 e2 k1 k2 k3 het
      have HT : Hid (lettersL (s.kept.take (i + 1)) = lettersL (s.kept.take i) ++ [UInt8.ofNat en.step, UInt8.ofNat en.count]) := het
      have h12 := hst2.c12
      have hil : (i : Int) < (s.kept.length : Int) := by omega
      clear het hst2 hv2 e2
      go_upto_region 5 with fail
      have r1 : ¬ 9223372036854775807 < 2 * i + 1 := by omega
      have r2 : ¬ 9223372036854775807 < 2 * i + 1 + 1 := by omega
      have i0 : (0 : Int) ≤ (i : Int) := by omega
      go_region_held3 (fun w' => w'.cell? ⟨B, 12, none⟩ = some (.slice (some ⟨g, 0, none⟩) s.kept.length cap) ∧ w'.cell? ⟨g, i * 3, none⟩ = some (.int .i64 (en.step : Int)) ∧ w'.cell? ⟨g, i * 3 + 1, none⟩ = some (.int .i64 (en.count : Int)))
        (simp (maxDischargeDepth := 40) [World.cell?_alloc_some, h12, e0, e1])
        (first | (go_at_call 100; go_must (refine (one_nat _ _ (by omega) (by omega)).mono ?_); rintro e w1 ⟨rfl, cc, rfl⟩))
      go_wp2
      go_roundg (gk - 1)
      case measure => omega
      case rel =>
        have e : m ++ str [UInt8.ofNat en.step] ++ str [UInt8.ofNat en.count] = str (lettersL (s.kept.take (i + 1))) := by
          rw [HM.out, str_append, str_append, HT.out]; simp
        have ez : (m ++ str [UInt8.ofNat en.step] ++ str [UInt8.ofNat en.count]).size = 2 * (i + 1) := by
          rw [ByteArray.size_append, ByteArray.size_append, hms, str_one_size, str_one_size]; omega
        refine ⟨i + 1, m ++ str [UInt8.ofNat en.step] ++ str [UInt8.ofNat en.count], by simp, rfl, by omega, by omega, ez, e, ?_⟩
        have hr := HR.out
        repeat (first | exact hr | apply Below.drew | (refine Below.alloc ?_ (by have := hr.size; first | omega | (simp; omega)) _))
    · obtain rfl : i = s.kept.length := by omega
      have h12 := hst2.c12
      clear hst2 hv2
      go_wp2
      go_ret
      refine ⟨?_, HW.out.trans (HR.out.mono HW.out.size)⟩
      show Ending.returned (Value.string m) = _
      rw [HM.out, List.take_length]
end Go.Proofs.Ytabpkohcimiceaa
