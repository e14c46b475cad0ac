import Derived.Test.YtabpkohcimiceaaPlanA
import Derived.Deep.RegionLaw
namespace Go.Proofs.Ytabpkohcimiceaa
set_option maxRecDepth 100000
set_option maxHeartbeats 1000000
open Go.RowKit
set_option linter.unusedVariables false
attribute [local go_sem ↓] Go.wp_at_zero Go.wp_at_succ
attribute [local go_sem] str_one_size
def lettersL : List EntM → List UInt8
  | [] => []
  | e :: l => [UInt8.ofNat e.step, UInt8.ofNat e.count] ++ lettersL l
theorem lettersL_append (a b : List EntM) : lettersL (a ++ b) = lettersL a ++ lettersL b := by
  induction a with
  | nil => rfl
  | cons e a ih => rw [List.cons_append, lettersL, lettersL, ih, List.append_assoc]
theorem lettersL_take (l : List EntM) (i : Nat) (h : i < l.length) : lettersL (l.take (i + 1)) = lettersL (l.take i) ++ [UInt8.ofNat (l.getD i default).step, UInt8.ofNat (l.getD i default).count] := by
  rw [take_succ_getD l default i h, lettersL_append]; simp [lettersL]
end Go.Proofs.Ytabpkohcimiceaa
namespace Go.Proofs.Ytabpkohcimiceaa
set_option maxRecDepth 100000
set_option maxHeartbeats 1000000
open Go.RowKit
set_option linter.unusedVariables false
theorem step_append_brow {w wr : World} {g cap : Nat} {l : List UInt8} {ops : Array Oper} {o : Oper} {a : Act} {K : Act → World → Prop} {Q : Exit → Act → World → Prop} {E : Prop} (hgd : o.guard = none) (s x : Operand) (tx : TypeId)
    (ho : o.op = .call { callee := .builtin .append, args := #[s, x], argTypes := #[42, tx] }) (h : BRow w wr g cap l) (hse : a.eval s = .slice (some ⟨g, 0, none⟩) l.length cap)
    (xv : Value) (hx : a.eval x = xv) (b : List UInt8) (hs : Src Try.prog 1 tx xv b.length (cellsOf b) wr) (hsm : l.length + b.length ≤ 1000000)
    (hK : ∀ g' cap' w', BRow w w' g' cap' (l ++ b) → K (a.put o.dst (.slice (some ⟨g', 0, none⟩) (l.length + b.length) cap')) w') :
    if Region.wanted o (yielded ops a.tmps) = true then Oper.wp Try.prog o a wr K Q else E := by
  have hw : Region.wanted o (yielded ops a.tmps) = true := by simp [Region.wanted, hgd]
  rw [if_pos hw]; obtain ⟨g', cap', w', hr, h2⟩ := run_append_brow h tx o.type xv b hs hsm
  unfold Oper.wp execOp
  simp only [ho, resolve, invoke, builtin, Sem.run_bind, Sem.run_pure, Result.andThen_ok, List.map_toArray, List.map_cons, List.map_nil, hse, hx, hr]
  exact hK g' cap' w' h2
theorem src_two (wr W : World) (x y : Nat) (hx : x ≤ 255) (hy : y ≤ 255) (hW : W.heap[wr.heap.size]? = some (.cells #[.int .u8 (x : Int), .int .u8 (y : Int)] 5 (0, 0))) : Src Try.prog 1 42 (.slice (some ⟨wr.heap.size, 0, none⟩) 2 2) ([UInt8.ofNat x, UInt8.ofNat y] : List UInt8).length (cellsOf [UInt8.ofNat x, UInt8.ofNat y]) W := by
  have e : cellsOf [UInt8.ofNat x, UInt8.ofNat y] = [.int .u8 (x : Int), .int .u8 (y : Int)] := by
    have e1 : (UInt8.ofNat x).toNat = x := by rw [UInt8.toNat_ofNat']; omega
    have e2 : (UInt8.ofNat y).toNat = y := by rw [UInt8.toNat_ofNat']; omega
    simp only [cellsOf, List.map_cons, List.map_nil, e1, e2]
  rw [e]
  refine Src.ofSlice (w := W) Try.underlying42 ⟨wr.heap.size, 0, none⟩ 2 2 [.int .u8 (x : Int), .int .u8 (y : Int)] rfl ?_ (by simp [Value.oneCell'])
  exact World.news_of_block (cs := #[.int .u8 (x : Int), .int .u8 (y : Int)]) (t := 5) (fr := (0, 0)) hW
set_option maxHeartbeats 600000 in
theorem letters_any (l : List EntM) (v : Value) (w : World) (hl : l.length ≤ 255) (hk : ∀ e ∈ l, e.step ≤ 255 ∧ e.count ≤ 255 ∧ e.key.length = 8) (hv : EntsAt w v l) :
    Calls Try.prog 97 #[v] w fun e w' => e = .returned (.string (str (lettersL l))) ∧ Below w.heap.size w w' := by
  obtain ⟨a, cap, hva⟩ := hv.form; subst hva
  go_enter Try.func97, Try.ntmps97
  go_wp2
  go_loopg [3, 4] (l.length + 1) (fun gg t c wr => ∃ (i g cap : Nat), ∃ m : List UInt8, c = .int .i64 i ∧ t = .slice (some ⟨g, 0, none⟩) m.length cap ∧ i ≤ l.length ∧ gg + i = l.length + 1 ∧ m.length = 2 * i ∧ m = lettersL (l.take i) ∧ BRow w wr g cap m)
  case atStart => exact ⟨0, _, _, [], rfl, rfl, by omega, by omega, rfl, rfl, BRow.lit w⟩
  case round =>
    obtain ⟨i, g, cap1, m, rfl, rfl, hi, hg, hms, hm, hrow⟩ := hrel; have HM : Hid (m = lettersL (l.take i)) := hm; have HMS : Hid (m.length = 2 * i) := hms
    have hmb : m.length ≤ 1000 := by omega
    clear hm hms; have hv2 := hv.next hrow.below
    by_cases hlt : i < l.length
    · obtain ⟨g0, cap', hv', hc, hgs, e0, e1, e2⟩ := hv2.cells hlt
      injection hv' with q1 q2 q3
      subst q1 q3
      obtain ⟨k1, k2, k3⟩ := hk (l.getD i default) (by rw [List.getD_eq_getElem?_getD, List.getElem?_eq_getElem hlt]; exact List.getElem_mem _)
      have het := lettersL_take l i hlt
      generalize l.getD i default = en at e0 e1 e2 k1 k2 k3 het
      have HT : Hid (lettersL (l.take (i + 1)) = lettersL (l.take i) ++ [UInt8.ofNat en.step, UInt8.ofNat en.count]) := het
      have hil : (i : Int) < (l.length : Int) := by omega
      have i0 : (0 : Int) ≤ (i : Int) := by omega
      have hw1 := wrap_u8 en.step k1; have hw2 := wrap_u8 en.count k2; clear het hv2 e2 hk
      go_upto_region 5 with fail
      go_region_law (refine step_append_brow (by rfl) _ _ 42 (by rfl) (hrow.next ((Below.refl _ _).alloc (Nat.le_refl _) _).drew) (by rfl) _ (by rfl) [UInt8.ofNat en.step, UInt8.ofNat en.count] (src_two wr _ en.step en.count k1 k2 (heap_alloc_new wr _)) (by simp; omega) ?_; intro g1 cap2 w1 hrow1)
      all_goals go_wp2
      all_goals go_roundg (gk - 1)
      all_goals first
        | omega
        | skip
      all_goals exact ⟨i + 1, g1, cap2, m ++ [UInt8.ofNat en.step, UInt8.ofNat en.count], by simp, by simp, by omega, by omega, by have := HMS.out; simp; omega, by rw [HT.out, HM.out], hrow1⟩
    · obtain rfl : i = l.length := by omega
      have hconv := conv_brow hrow; have HB : Hid (Below w.heap.size w wr) := hrow.below; clear hrow hv2; go_wp2; go_ret
      refine ⟨?_, HB.out⟩
      show Ending.returned (Value.string (str m)) = _
      rw [HM.out, List.take_length]
end Go.Proofs.Ytabpkohcimiceaa
