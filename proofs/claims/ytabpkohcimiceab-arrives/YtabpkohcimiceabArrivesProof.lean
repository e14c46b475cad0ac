import Derived.Test.YtabpkohcimiceabArrX
import Derived.Test.YtabpkohcimiceabAgg8
import Derived.WalkKit
import Derived.ProofKit
import Derived.OpenShut
import Derived.ShutString
import Derived.ChangeOld
import Derived.Below
import Derived.Lib.SmallJoins
import Derived.SizedLaws
import Derived.WideKeyArgs
namespace Go.Proofs.Ytabpkohcimiceab
set_option maxRecDepth 100000
set_option maxHeartbeats 1000000
open Go.ChangeShapes Go.WideShapes Go.ChangeAt Go.RowKit Go.Joins
open Go.ChangeMaps (open_string shut_string)
set_option linter.unusedVariables false
theorem Try.setupCells : Try.prog.cellsOf 23 = 8 := by kernel_rfl
theorem Try.stepsBytes : Try.prog.bytesOf 34 = 104 := by kernel_rfl
theorem Try.laidOut : laidOutB Try.prog = true := by kernel_rfl
theorem arrives_own : ownKnob Try.prog.godebug = none := by kernel_rfl
theorem arrives_lifted (os : Os) (started : os.Started) (H : Type) (enc : TypeId × Value → H) :
    ReturnsInHanded {} Try.checked os 3 .any (Rows.arrivesSpec.pre6 enc Try.prog Try.f3 Rows.arrivesRow.domain false) (Rows.arrivesSpec.post enc Try.prog Try.f3 false true false false) := by
  refine returnsInHanded_of_change_sized (C := Try.checked) arrives_own started (by kernel_rfl) Try.func3
    (ChangeSpec.witness6 (enc := enc) (C := Try.checked) false ⟨#[], #[.agg #[.int .i64 0, .int .i64 0, .int .i64 0, .int .i64 0, .int .i64 0, .int .i64 0, .int .i64 0, .string ByteArray.empty], .slice none 0 0], []⟩ 8 (by kernel_rfl) (by kernel_rfl) (by kernel_rfl) (by kernel_rfl)) ?_
  intro W base args ds gs before hval0 hW hcnd hreach _
  have hval : ∀ (j : Nat) t v, Try.f3.params[j]? = some t → args[j]? = some v → Value.okWide Try.prog W .any base t v := hval0; have hW' := hW; obtain ⟨p, q, hA0, hV, rfl, hfz, hnd⟩ := hW
  have hlt : ∀ x ∈ p, x.block < W.heap.size := fun x hx => hW'.lt x (by simp [hx])
  have hA : DataW.TrodAll enc Try.prog W 0 (fun _ => true) true Try.f3.params.toList args.toList ds p := hA0
  rw [Try.params3] at hA hval
  obtain ⟨v0, vs0, d0, ds0, p0, q0, hargs, rfl, rfl, h0, r0⟩ := trodAll_cons hA; obtain ⟨v1, vs1, d1, ds1, p1, q1, rfl, rfl, rfl, h1, r1⟩ := trodAll_cons r0; obtain ⟨rfl, rfl, rfl⟩ := trodAll_nil r1
  obtain rfl : args = #[v0, v1] := by cases args; simp_all
  obtain ⟨rfl, rfl⟩ := trodVars_none hV
  obtain ⟨c0_0, c0_1, c0_2, c0_3, c0_4, c0_5, c0_6, c0_7, y0_0, y0_1, y0_2, y0_3, y0_4, y0_5, y0_6, y0_7, m0, rfl, rfl, rfl, g0_0, g0_1, g0_2, g0_3, g0_4, g0_5, g0_6, g0_7⟩ := open_agg8 Try.underlying23 (by kernel_rfl) Try.setupCells (hval 0 23 v0 rfl rfl) h0
  obtain ⟨b0_0, e0_0, rfl, w0_0⟩ := DataW.trod_int Try.underlying3 g0_0; obtain ⟨b0_1, e0_1, rfl, w0_1⟩ := DataW.trod_int Try.underlying3 g0_1; obtain ⟨b0_2, e0_2, rfl, w0_2⟩ := DataW.trod_int Try.underlying3 g0_2; obtain ⟨b0_3, e0_3, rfl, w0_3⟩ := DataW.trod_int Try.underlying3 g0_3; obtain ⟨b0_4, e0_4, rfl, w0_4⟩ := DataW.trod_int Try.underlying3 g0_4; obtain ⟨b0_5, e0_5, rfl, w0_5⟩ := DataW.trod_int Try.underlying3 g0_5; obtain ⟨b0_6, e0_6, rfl, w0_6⟩ := DataW.trod_int Try.underlying3 g0_6; obtain ⟨b0_7, e0_7, rfl, w0_7⟩ := DataW.trod_string Try.underlying9 g0_7
  simp at e0_0 e0_1 e0_2 e0_3 e0_4 e0_5 e0_6 e0_7
  subst e0_0 e0_1 e0_2 e0_3 e0_4 e0_5 e0_6 e0_7; obtain ⟨a1, w1, x1, z1⟩ := steps_arg (hval 1 24 v1 rfl rfl) h1
  have s1 : a1.length * 104 ≤ 140737488351232 := by
    rcases z1 with ⟨_, z⟩ | ⟨es, sp, z, zl⟩
    · rw [z]; simp
    · subst z
      have hs := sized_slice (P := Try.prog) hreach (j := 1) (t := 24) (e := 34) (by rw [Try.params3]; rfl) rfl Try.underlying24
      rw [Try.stepsBytes] at hs
      unfold reachBytes at hs
      omega
  clear hA0 hval0
  simp only [List.append_nil] at hW'
  refine (arrives_walk b0_0 b0_1 b0_2 b0_3 b0_4 b0_5 b0_6 b0_7 v1 a1 (wf_i64 w0_0) (wf_i64 w0_1) (wf_i64 w0_2) (wf_i64 w0_3) (wf_i64 w0_4) (wf_i64 w0_5) (wf_i64 w0_6) w0_7 W w1 (by omega) x1).mono fun e W' ⟨he, bel⟩ => ?_
  subst he
  exact ⟨_, rfl, _, _, _, [], _, [], hW', trodAll_mk1 (shut_bool Try.underlying4 _), (trodAll_cons_mk (shut_agg8 (y0 := (.lit (.int .i64 b0_0), [])) (y1 := (.lit (.int .i64 b0_1), [])) (y2 := (.lit (.int .i64 b0_2), [])) (y3 := (.lit (.int .i64 b0_3), [])) (y4 := (.lit (.int .i64 b0_4), [])) (y5 := (.lit (.int .i64 b0_5), [])) (y6 := (.lit (.int .i64 b0_6), [])) (y7 := (.lit (.string b0_7.data.toList), [])) Try.underlying23 (by kernel_rfl) Try.setupCells ⟨1, by show DataW.trod enc Try.prog _ _ _ _ 1 3 _ = _; simp [DataW.trod, Try.underlying3, w0_0]⟩ ⟨1, by show DataW.trod enc Try.prog _ _ _ _ 1 3 _ = _; simp [DataW.trod, Try.underlying3, w0_1]⟩ ⟨1, by show DataW.trod enc Try.prog _ _ _ _ 1 3 _ = _; simp [DataW.trod, Try.underlying3, w0_2]⟩ ⟨1, by show DataW.trod enc Try.prog _ _ _ _ 1 3 _ = _; simp [DataW.trod, Try.underlying3, w0_3]⟩ ⟨1, by show DataW.trod enc Try.prog _ _ _ _ 1 3 _ = _; simp [DataW.trod, Try.underlying3, w0_4]⟩ ⟨1, by show DataW.trod enc Try.prog _ _ _ _ 1 3 _ = _; simp [DataW.trod, Try.underlying3, w0_5]⟩ ⟨1, by show DataW.trod enc Try.prog _ _ _ _ 1 3 _ = _; simp [DataW.trod, Try.underlying3, w0_6]⟩ ⟨1, by show DataW.trod enc Try.prog _ _ _ _ 1 9 _ = _; simp [DataW.trod, Try.underlying9, w0_7]⟩) (trodAll_cons_mk (WideElems.Trod_stays Try.laidOut (by kernel_rfl) (of_decide_eq_true (by kernel_rfl)) h1 (fun x hx => bel.same (hlt x (by simp [hx]))) (fun x hx => by simpa using hlt x (by simp [hx]))) trodAll_mk0)), rfl, bel.frame _, fun h => by cases h⟩
theorem arrives_holds : Rows.ArrivesSaid :=
  OpenClaim.holds_of_wide 3 Try.f3 rfl rfl rfl rfl rfl rfl rfl ⟨rfl, rfl, rfl, rfl, rfl⟩ rfl rfl rfl rfl rfl (by kernel_rfl) Try.func3 (by kernel_rfl)
    (of_decide_eq_true (by kernel_rfl)) (by unfold Func.isWrapper; first | (rw [if_pos (by decide +kernel)]; kernel_rfl) | (rw [if_neg (by decide +kernel)]; exact ⟨rfl, rfl⟩))
    (fun os started H enc _ => arrives_lifted os started H enc)
#print axioms arrives_holds
end Go.Proofs.Ytabpkohcimiceab
