import Derived.Test.YtabpkohcimiceabBoxS
import Derived.Test.YtabpkohcimiceabPlanA
import Derived.Test.YtabpkohcimiceabTextA
import Derived.WalkKit
import Derived.WalkSpells
import Derived.WalkLawsBesides
import Derived.Deep.RegionHeld3
import Derived.Deep.DeepMust
import Derived.Deep.DrawnRows
import Derived.Deep.DeepCutAuto
import Derived.OwnWalk
import Derived.Deep.RegionLaw
import Derived.Deep.AppendLies
namespace Go.Proofs.Ytabpkohcimiceab
open Go.RowKit
set_option linter.unusedVariables false
attribute [local go_sem ↓] Go.wp_at_zero Go.wp_at_succ
attribute [local go_sem] str_one_size

def lettersL : List EntM → List UInt8
  | [] => []
  | e :: l => [UInt8.ofNat e.step, UInt8.ofNat e.count] ++ lettersL l
theorem lettersL_append (a b : List EntM) : lettersL (a ++ b) = lettersL a ++ lettersL b := by
  induction a with
  | nil => rfl
  | cons e a ih => rw [List.cons_append, lettersL, lettersL, ih, List.append_assoc]
theorem lettersL_take (l : List EntM) (i : Nat) (h : i < l.length) : lettersL (l.take (i + 1)) = lettersL (l.take i) ++ [UInt8.ofNat (l.getD i default).step, UInt8.ofNat (l.getD i default).count] := by
  rw [take_succ_getD l default i h, lettersL_append]; simp [lettersL]

end Go.Proofs.Ytabpkohcimiceab

namespace Go.Proofs.Ytabpkohcimiceab
open Go.RowKit
set_option linter.unusedVariables false

theorem step_append_brow {w wr : World} {g cap : Nat} {l : List UInt8} {ops : Array Oper} {o : Oper} {a : Act} {K : Act → World → Prop} {Q : Exit → Act → World → Prop} {E : Prop} (hgd : o.guard = none) (s x : Operand) (tx : TypeId)
    (ho : o.op = .call { callee := .builtin .append, args := #[s, x], argTypes := #[76, tx] }) (h : BRow w wr g cap l) (hse : a.eval s = .slice (some ⟨g, 0, none⟩) l.length cap)
    (xv : Value) (hx : a.eval x = xv) (b : List UInt8) (hs : Src Try.prog 1 tx xv b.length (cellsOf b) wr) (hsm : l.length + b.length ≤ 1000000)
    (hK : ∀ g' cap' w', BRow w w' g' cap' (l ++ b) → K (a.put o.dst (.slice (some ⟨g', 0, none⟩) (l.length + b.length) cap')) w') :
    if Region.wanted o (yielded ops a.tmps) = true then Oper.wp Try.prog o a wr K Q else E := by
  have hw : Region.wanted o (yielded ops a.tmps) = true := by simp [Region.wanted, hgd]
  rw [if_pos hw]
  obtain ⟨g', cap', w', hr, h2⟩ := run_append_brow h tx o.type xv b hs hsm
  unfold Oper.wp execOp
  simp only [ho, resolve, invoke, builtin, Sem.run_bind, Sem.run_pure, Result.andThen_ok, List.map_toArray, List.map_cons, List.map_nil, hse, hx, hr]
  exact hK g' cap' w' h2
theorem src_two (wr W : World) (x y : Nat) (hx : x ≤ 255) (hy : y ≤ 255) (hW : W.heap[wr.heap.size]? = some (.cells #[.int .u8 (x : Int), .int .u8 (y : Int)] 5 (0, 0))) : Src Try.prog 1 76 (.slice (some ⟨wr.heap.size, 0, none⟩) 2 2) ([UInt8.ofNat x, UInt8.ofNat y] : List UInt8).length (cellsOf [UInt8.ofNat x, UInt8.ofNat y]) W := by
  have e : cellsOf [UInt8.ofNat x, UInt8.ofNat y] = [.int .u8 (x : Int), .int .u8 (y : Int)] := by
    have e1 : (UInt8.ofNat x).toNat = x := by rw [UInt8.toNat_ofNat']; omega
    have e2 : (UInt8.ofNat y).toNat = y := by rw [UInt8.toNat_ofNat']; omega
    simp only [cellsOf, List.map_cons, List.map_nil, e1, e2]
  rw [e]
  refine Src.ofSlice (w := W) Try.underlying76 ⟨wr.heap.size, 0, none⟩ 2 2 [.int .u8 (x : Int), .int .u8 (y : Int)] rfl ?_ (by simp [Value.oneCell'])
  exact World.news_of_block (cs := #[.int .u8 (x : Int), .int .u8 (y : Int)]) (t := 5) (fr := (0, 0)) hW

end Go.Proofs.Ytabpkohcimiceab
