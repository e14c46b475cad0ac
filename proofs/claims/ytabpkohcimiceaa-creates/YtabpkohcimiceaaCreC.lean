import Derived.Test.YtabpkohcimiceaaNewC
import Derived.WalkKit
import Derived.WalkSpells
import Derived.WalkLawsBesides
import Derived.Deep.QuietTactic
import Derived.BigQuiet
namespace Go.Proofs.Ytabpkohcimiceaa
open Go.RowKit
set_option linter.unusedVariables false

def CfgOk (role skip cap peer : Int) : Prop := (0 ≤ role ∧ role ≤ 1) ∧ (0 ≤ skip ∧ skip ≤ 12) ∧ (0 ≤ cap ∧ cap ≤ 30) ∧ (role = 1 → peer = 0) ∧ (role ≠ 1 → Pub peer)
instance (role skip cap peer : Int) : Decidable (CfgOk role skip cap peer) := inferInstanceAs (Decidable (_ ∧ _))
theorem cfg_allow (role skip cap peer draw : Int) : (CfgOk role skip cap peer ∧ Sec draw) ↔ Allow role skip cap peer draw := by
  unfold CfgOk Allow
  constructor
  · rintro ⟨⟨⟨a1, a2⟩, ⟨b1, b2⟩, ⟨c1, c2⟩, d1, d2⟩, e⟩
    refine ⟨e, ⟨b1, b2, c1, c2⟩, ?_⟩
    by_cases h : role = 1
    · exact .inr ⟨h, d1 h⟩
    · exact .inl ⟨by omega, d2 h⟩
  · rintro ⟨e, ⟨b1, b2, c1, c2⟩, h⟩
    rcases h with ⟨h, p⟩ | ⟨h, p⟩
    · exact ⟨⟨⟨by omega, by omega⟩, ⟨b1, b2⟩, ⟨c1, c2⟩, fun x => by omega, fun _ => p⟩, e⟩
    · exact ⟨⟨⟨by omega, by omega⟩, ⟨b1, b2⟩, ⟨c1, c2⟩, fun _ => p, fun x => absurd h x⟩, e⟩

set_option maxRecDepth 100000 in
set_option maxHeartbeats 1000000 in
theorem isConfig_any (role skip cap peer : Int) (w : World) :
    Calls Try.prog 75 #[.agg (cfgCells role skip cap peer)] w fun e w' => e = .returned (.bool (decide (CfgOk role skip cap peer))) ∧ Below w.heap.size w w' := by
  unfold cfgCells
  have c1 := fun n m w => isWithin_any n m w
  have c2 := fun w => devIsPublic_any peer w
  by_cases h1 : 0 ≤ role ∧ role ≤ 1
  · have d1 := decide_eq_true h1
    by_cases h2 : 0 ≤ skip ∧ skip ≤ 12
    · have d2 := decide_eq_true h2
      by_cases h3 : 0 ≤ cap ∧ cap ≤ 30
      · have d3 := decide_eq_true h3
        by_cases h4 : role = 1
        · have e : decide (CfgOk role skip cap peer) = (peer == 0) := by
            by_cases hp : peer = 0
            · rw [decide_eq_true ⟨h1, h2, h3, fun _ => hp, fun x => absurd h4 x⟩, hp]; rfl
            · rw [decide_eq_false (fun h : CfgOk role skip cap peer => hp (h.2.2.2.1 h4))]; exact (beq_eq_false_iff_ne.2 hp).symm
          rw [e]
          subst h4
          clear h1 h2 h3 e
          go_enter Try.func75, Try.ntmps75
          go_wp2_with (first | (go_at_call 71; refine (c1 _ _ _).mono ?_; rintro e w' ⟨rfl, hw⟩; rw [hw]; clear hw w'))
          go_ret
          exact ⟨rfl, (Below.refl _ _).alloc (Nat.le_refl _) _⟩
        · have e : decide (CfgOk role skip cap peer) = decide (Pub peer) := by
            by_cases hp : Pub peer
            · rw [decide_eq_true hp, decide_eq_true ⟨h1, h2, h3, fun x => absurd x h4, fun _ => hp⟩]
            · rw [decide_eq_false hp, decide_eq_false (fun h : CfgOk role skip cap peer => hp (h.2.2.2.2 h4))]
          rw [e]
          clear h1 h2 h3 e
          go_enter Try.func75, Try.ntmps75
          go_wp2_with (first | (go_at_call 71; refine (c1 _ _ _).mono ?_; rintro e w' ⟨rfl, hw⟩; rw [hw]; clear hw w') | (go_at_call 55; refine (c2 _).mono ?_; rintro e w' ⟨rfl, hw⟩; rw [hw]; clear hw w'))
          go_ret
          exact ⟨rfl, (Below.refl _ _).alloc (Nat.le_refl _) _⟩
      · have d3 := decide_eq_false h3
        rw [decide_eq_false (fun h : CfgOk role skip cap peer => h3 h.2.2.1)]
        clear h1 h2 h3
        go_enter Try.func75, Try.ntmps75
        go_wp2_with (first | (go_at_call 71; refine (c1 _ _ _).mono ?_; rintro e w' ⟨rfl, hw⟩; rw [hw]; clear hw w'))
        go_ret
        exact ⟨rfl, (Below.refl _ _).alloc (Nat.le_refl _) _⟩
    · have d2 := decide_eq_false h2
      rw [decide_eq_false (fun h : CfgOk role skip cap peer => h2 h.2.1)]
      clear h1 h2
      go_enter Try.func75, Try.ntmps75
      go_wp2_with (first | (go_at_call 71; refine (c1 _ _ _).mono ?_; rintro e w' ⟨rfl, hw⟩; rw [hw]; clear hw w'))
      go_ret
      exact ⟨rfl, (Below.refl _ _).alloc (Nat.le_refl _) _⟩
  · have d1 := decide_eq_false h1
    rw [decide_eq_false (fun h : CfgOk role skip cap peer => h1 h.1)]
    clear h1
    go_enter Try.func75, Try.ntmps75
    go_wp2_with (first | (go_at_call 71; refine (c1 _ _ _).mono ?_; rintro e w' ⟨rfl, hw⟩; rw [hw]; clear hw w'))
    go_ret
    exact ⟨rfl, (Below.refl _ _).alloc (Nat.le_refl _) _⟩

/-! ### What Create answers: where the plan leads, the error -/
def creErr (d : List UInt8) (role skip cap peer : Int) (sec : List UInt8) (draw : Int) : Int :=
  if isDiskL d = true then
    if Allow role skip cap peer draw then
      if sec.length = 8 then
        if d.length < (1 + 2 * halfN cap.toNat) * 32 then 8
        else if d = List.replicate d.length 0 then 0 else 9
      else 1
    else 3
  else 6
def creTo (d : List UInt8) (role skip cap peer : Int) (sec : List UInt8) (draw : Int) : List UInt8 :=
  if creErr d role skip cap peer sec draw = 0 then packL (newS role.toNat skip.toNat cap.toNat peer.toNat sec draw.toNat) 0 d.length else []
def crePlan (d : List UInt8) (role skip cap peer : Int) (sec : List UInt8) (draw : Int) : List UInt8 :=
  if creErr d role skip cap peer sec draw = 0 then changesL d (creTo d role skip cap peer sec draw) 1 (d.length / 32) ++ changesL d (creTo d role skip cap peer sec draw) 0 1 else []

end Go.Proofs.Ytabpkohcimiceaa
