import Derived.Test.YtabpkohcimiceaaMath
import Derived.Laws.OwnMore
namespace Go.Proofs.Ytabpkohcimiceaa
open Go.RowKit

/-! ### Sealing, on lists of bytes -/
def maskB (key : List UInt8) (i : Nat) : List UInt8 := mixed key [115, UInt8.ofNat i]
def maskAt (key : List UInt8) (j : Nat) : UInt8 := (maskB key (j / 8)).getD (j % 8) 0
def maskL (key : List UInt8) (n : Nat) : List UInt8 := (List.range n).map (maskAt key)
def veilN (key text : List UInt8) (n : Nat) : List UInt8 := (List.range n).map fun j => text.getD j 0 ^^^ maskAt key j
def veil (key text : List UInt8) : List UInt8 := veilN key text text.length
def tagL (key head cover : List UInt8) : List UInt8 := mixed key (116 :: (head ++ cover))
def sealL (key head text : List UInt8) : List UInt8 := veil key text ++ tagL key head (veil key text)

theorem maskB_length (key : List UInt8) (i : Nat) : (maskB key i).length = 8 := rfl
theorem maskL_length (key : List UInt8) (n : Nat) : (maskL key n).length = n := by simp [maskL]
theorem veilN_length (key text : List UInt8) (n : Nat) : (veilN key text n).length = n := by simp [veilN]
theorem veil_length (key text : List UInt8) : (veil key text).length = text.length := veilN_length _ _ _
theorem tagL_length (key head cover : List UInt8) : (tagL key head cover).length = 8 := rfl
theorem sealL_length (key head text : List UInt8) : (sealL key head text).length = text.length + 8 := by
  rw [sealL, List.length_append, veil_length, tagL_length]
theorem veilN_succ (key text : List UInt8) (n : Nat) : veilN key text (n + 1) = veilN key text n ++ [text.getD n 0 ^^^ maskAt key n] := by
  simp [veilN, List.range_succ]
theorem maskL_take (key : List UInt8) (n m : Nat) (h : n ≤ m) : (maskL key m).take n = maskL key n := by
  rw [maskL, ← List.map_take, List.take_range, Nat.min_eq_left h]; rfl
theorem maskL_getD (key : List UInt8) (n j : Nat) (h : j < n) : (maskL key n).getD j 0 = maskAt key j := by
  rw [List.getD_eq_getElem?_getD, maskL, List.getElem?_map, List.getElem?_range h]; rfl
theorem veilN_getD (key text : List UInt8) (n j : Nat) (h : j < n) : (veilN key text n).getD j 0 = text.getD j 0 ^^^ maskAt key j := by
  rw [List.getD_eq_getElem?_getD, veilN, List.getElem?_map, List.getElem?_range h]; rfl
theorem maskL_block (key : List UInt8) (k : Nat) : maskL key (8 * k) ++ maskB key k = maskL key (8 * (k + 1)) := by
  have e : ∀ m, m ≤ 8 → maskL key (8 * k) ++ (maskB key k).take m = maskL key (8 * k + m) := by
    intro m
    induction m with
    | zero => intro _; simp
    | succ m ih =>
      intro hm
      have e1 : (maskB key k).take (m + 1) = (maskB key k).take m ++ [(maskB key k).getD m 0] := by
        rw [List.take_succ_eq_append_getElem (by rw [maskB_length]; omega), List.getD_eq_getElem?_getD, List.getElem?_eq_getElem (by rw [maskB_length]; omega)]; rfl
      rw [e1, ← List.append_assoc, ih (by omega), ← Nat.add_assoc]
      simp only [maskL, List.range_succ, List.map_append, List.map_cons, List.map_nil, maskAt]
      rw [show (8 * k + m) / 8 = k by omega, show (8 * k + m) % 8 = m by omega]
  have := e 8 (Nat.le_refl _)
  rw [List.take_of_length_le (by rw [maskB_length]; omega)] at this
  rw [this]; congr 1
theorem getD_of_getElem (l : List UInt8) (j : Nat) (h : j < l.length) : l.getD j 0 = l[j] := by
  rw [List.getD_eq_getElem?_getD, List.getElem?_eq_getElem h]; rfl
theorem ext_getD (a b : List UInt8) (hl : a.length = b.length) (h : ∀ j, j < a.length → a.getD j 0 = b.getD j 0) : a = b := by
  apply List.ext_getElem hl
  intro j h1 h2
  have := h j h1
  rwa [getD_of_getElem a j h1, getD_of_getElem b j h2] at this
theorem veil_veil (key text : List UInt8) : veil key (veil key text) = text := by
  apply ext_getD
  · rw [veil_length, veil_length]
  · intro j hj
    rw [veil_length, veil_length] at hj
    rw [veil, veilN_getD _ _ _ _ (by rw [veil_length]; exact hj), veil, veilN_getD _ _ _ _ hj, UInt8.xor_assoc, UInt8.xor_self, UInt8.xor_zero]
theorem xor_veil (key text : List UInt8) : (List.range text.length).map (fun j => text.getD j 0 ^^^ (maskL key text.length).getD j 0) = veil key text := by
  rw [veil, veilN]
  apply List.map_congr_left
  intro j hj
  rw [maskL_getD _ _ _ (List.mem_range.1 hj)]

/-! ### Unsealing -/
/-- Does what is sealed open? -/
def opensL (key head sealed : List UInt8) : Prop := sealed.drop (sealed.length - 8) = tagL key head (sealed.take (sealed.length - 8))
instance (key head sealed : List UInt8) : Decidable (opensL key head sealed) := inferInstanceAs (Decidable (_ = _))
theorem again_iff (key head sealed : List UInt8) (h : 8 ≤ sealed.length) : sealL key head (veil key (sealed.take (sealed.length - 8))) = sealed ↔ opensL key head sealed := by
  rw [sealL, veil_veil, opensL]
  constructor
  · intro e
    have e2 := congrArg (List.drop (sealed.length - 8)) e
    rw [List.drop_left' (by rw [List.length_take]; omega)] at e2
    exact e2.symm
  · intro e
    rw [← e, List.take_append_drop]
theorem seal_opens (key head text : List UInt8) : opensL key head (sealL key head text) := by
  rw [opensL, sealL_length, Nat.add_sub_cancel, sealL, List.drop_left' (veil_length _ _), List.take_left' (veil_length _ _)]
theorem seal_take (key head text : List UInt8) : (sealL key head text).take ((sealL key head text).length - 8) = veil key text := by
  rw [sealL_length, Nat.add_sub_cancel, sealL, List.take_left' (veil_length _ _)]

/-! ### Cells that are bytes -/
def cellsOf (l : List UInt8) : List Value := l.map fun c => .int .u8 (c.toNat : Int)
theorem cellsOf_append (a b : List UInt8) : cellsOf (a ++ b) = cellsOf a ++ cellsOf b := by simp [cellsOf]
theorem cellsOf_length (a : List UInt8) : (cellsOf a).length = a.length := by simp [cellsOf]
theorem cellsOf_at (a : List UInt8) (j : Nat) (h : j < a.length) : (cellsOf a)[j]? = some (.int .u8 (a[j].toNat : Int)) := by simp [cellsOf, List.getElem?_eq_getElem h]
theorem ownsRow_below {w w' : World} {base : Nat} {e : TypeId} {size : Nat} {v : Value} {n : Nat} {xs : List Value} (h : w.ownsRow base e size v n xs) (hb : Below w.heap.size w w') : w'.ownsRow base e size v n xs := by
  refine ⟨h.1, ?_⟩
  rcases h.2 with hn | ⟨g, cap, cur, rfl, hg, hgg, rest⟩
  · exact .inl hn
  · refine .inr ⟨g, cap, cur, rfl, hg, ?_, rest⟩
    have hlt : g < w.heap.size := by
      rcases Nat.lt_or_ge g w.heap.size with h | h
      · exact h
      · rw [Array.getElem?_eq_none h] at hgg; cases hgg
    rw [hb.block g hlt]; exact hgg
theorem ownsRow_drew {w : World} {base : Nat} {e : TypeId} {size : Nat} {v : Value} {n : Nat} {xs : List Value} (h : w.ownsRow base e size v n xs) : w.drew.ownsRow base e size v n xs := h
end Go.Proofs.Ytabpkohcimiceaa
