import Derived.Laws.Rows
import Derived.Below
import Derived.WalkKit
import Derived.Laws.OwnMore
namespace Go.Proofs.Ytabpkohcimiceab
set_option maxRecDepth 100000
set_option maxHeartbeats 1000000
open Go.RowKit
theorem hid {p : Prop} (h : p) : Hid p := h
theorem cells6 {w : World} {b : Nat} {T : TypeId} {v0 v1 v2 v3 v4 v5 : Value} (h : w.heap[b]? = some (.cells #[v0, v1, v2, v3, v4, v5] T)) : w.cell? ⟨b, 0, none⟩ = some v0 ∧ w.cell? ⟨b, 1, none⟩ = some v1 ∧ w.cell? ⟨b, 2, none⟩ = some v2 ∧ w.cell? ⟨b, 3, none⟩ = some v3 ∧ w.cell? ⟨b, 4, none⟩ = some v4 ∧ w.cell? ⟨b, 5, none⟩ = some v5 := ⟨cell_of_row w _ 0 _ _ _ h, cell_of_row w _ 1 _ _ _ h, cell_of_row w _ 2 _ _ _ h, cell_of_row w _ 3 _ _ _ h, cell_of_row w _ 4 _ _ _ h, cell_of_row w _ 5 _ _ _ h⟩
theorem cells13 {w : World} {b : Nat} {T : TypeId} {v0 v1 v2 v3 v4 v5 v6 v7 v8 v9 v10 v11 v12 : Value} (h : w.heap[b]? = some (.cells #[v0, v1, v2, v3, v4, v5, v6, v7, v8, v9, v10, v11, v12] T)) : w.cell? ⟨b, 0, none⟩ = some v0 ∧ w.cell? ⟨b, 1, none⟩ = some v1 ∧ w.cell? ⟨b, 2, none⟩ = some v2 ∧ w.cell? ⟨b, 3, none⟩ = some v3 ∧ w.cell? ⟨b, 4, none⟩ = some v4 ∧ w.cell? ⟨b, 5, none⟩ = some v5 ∧ w.cell? ⟨b, 6, none⟩ = some v6 ∧ w.cell? ⟨b, 7, none⟩ = some v7 ∧ w.cell? ⟨b, 8, none⟩ = some v8 ∧ w.cell? ⟨b, 9, none⟩ = some v9 ∧ w.cell? ⟨b, 10, none⟩ = some v10 ∧ w.cell? ⟨b, 11, none⟩ = some v11 ∧ w.cell? ⟨b, 12, none⟩ = some v12 := ⟨cell_of_row w _ 0 _ _ _ h, cell_of_row w _ 1 _ _ _ h, cell_of_row w _ 2 _ _ _ h, cell_of_row w _ 3 _ _ _ h, cell_of_row w _ 4 _ _ _ h, cell_of_row w _ 5 _ _ _ h, cell_of_row w _ 6 _ _ _ h, cell_of_row w _ 7 _ _ _ h, cell_of_row w _ 8 _ _ _ h, cell_of_row w _ 9 _ _ _ h, cell_of_row w _ 10 _ _ _ h, cell_of_row w _ 11 _ _ _ h, cell_of_row w _ 12 _ _ _ h⟩
theorem cells16 {w : World} {b : Nat} {T : TypeId} {v0 v1 v2 v3 v4 v5 v6 v7 v8 v9 v10 v11 v12 v13 v14 v15 : Value} (h : w.heap[b]? = some (.cells #[v0, v1, v2, v3, v4, v5, v6, v7, v8, v9, v10, v11, v12, v13, v14, v15] T)) : w.cell? ⟨b, 0, none⟩ = some v0 ∧ w.cell? ⟨b, 1, none⟩ = some v1 ∧ w.cell? ⟨b, 2, none⟩ = some v2 ∧ w.cell? ⟨b, 3, none⟩ = some v3 ∧ w.cell? ⟨b, 4, none⟩ = some v4 ∧ w.cell? ⟨b, 5, none⟩ = some v5 ∧ w.cell? ⟨b, 6, none⟩ = some v6 ∧ w.cell? ⟨b, 7, none⟩ = some v7 ∧ w.cell? ⟨b, 8, none⟩ = some v8 ∧ w.cell? ⟨b, 9, none⟩ = some v9 ∧ w.cell? ⟨b, 10, none⟩ = some v10 ∧ w.cell? ⟨b, 11, none⟩ = some v11 ∧ w.cell? ⟨b, 12, none⟩ = some v12 ∧ w.cell? ⟨b, 13, none⟩ = some v13 ∧ w.cell? ⟨b, 14, none⟩ = some v14 ∧ w.cell? ⟨b, 15, none⟩ = some v15 := ⟨cell_of_row w _ 0 _ _ _ h, cell_of_row w _ 1 _ _ _ h, cell_of_row w _ 2 _ _ _ h, cell_of_row w _ 3 _ _ _ h, cell_of_row w _ 4 _ _ _ h, cell_of_row w _ 5 _ _ _ h, cell_of_row w _ 6 _ _ _ h, cell_of_row w _ 7 _ _ _ h, cell_of_row w _ 8 _ _ _ h, cell_of_row w _ 9 _ _ _ h, cell_of_row w _ 10 _ _ _ h, cell_of_row w _ 11 _ _ _ h, cell_of_row w _ 12 _ _ _ h, cell_of_row w _ 13 _ _ _ h, cell_of_row w _ 14 _ _ _ h, cell_of_row w _ 15 _ _ _ h⟩
abbrev W32 := BitVec 32
def r7 (x : W32) : W32 := x <<< 7 ||| x >>> 25
def r13 (x : W32) : W32 := x <<< 13 ||| x >>> 19
def rnd (i : Nat) (p : W32 × W32) : W32 × W32 :=
  (r13 (p.1 + p.2 + BitVec.ofNat 32 i) ^^^ (r7 p.2 ^^^ (p.1 + p.2 + BitVec.ofNat 32 i)),
   (r7 p.2 ^^^ (p.1 + p.2 + BitVec.ofNat 32 i)) + (r13 (p.1 + p.2 + BitVec.ofNat 32 i) ^^^ (r7 p.2 ^^^ (p.1 + p.2 + BitVec.ofNat 32 i))))
def rnds : Nat → W32 × W32 → W32 × W32
  | 0, p => p
  | k + 1, p => rnd (k + 1) (rnds k p)
def stir (p : W32 × W32) : W32 × W32 := rnds 3 p
theorem bits_xor (x y : W32) : bits .xor .u32 (x.toNat : Int) (y.toNat : Int) = ((x ^^^ y).toNat : Int) := by
  simp only [bits, IntKind.bits, BitVec.ofInt_natCast, BitVec.ofNat_toNat, BitVec.setWidth_eq, IntKind.wrap, IntKind.signed, Bool.false_and, Bool.false_eq_true, if_false]
  exact Int.emod_eq_of_lt (Int.natCast_nonneg _) (by have := (x ^^^ y).isLt; exact_mod_cast this)
theorem bits_or (x y : W32) : bits .or .u32 (x.toNat : Int) (y.toNat : Int) = ((x ||| y).toNat : Int) := by
  simp only [bits, IntKind.bits, BitVec.ofInt_natCast, BitVec.ofNat_toNat, BitVec.setWidth_eq, IntKind.wrap, IntKind.signed, Bool.false_and, Bool.false_eq_true, if_false]
  exact Int.emod_eq_of_lt (Int.natCast_nonneg _) (by have := (x ||| y).isLt; exact_mod_cast this)
theorem add_mod (x y : W32) : ((x.toNat : Int) + (y.toNat : Int)) % (4294967296 : Int) = ((x + y).toNat : Int) := by
  rw [BitVec.toNat_add]; omega
theorem add3_mod (x y : W32) (k : Nat) : ((x.toNat : Int) + (y.toNat : Int) + ((k : Int) + 1)) % (4294967296 : Int) = ((x + y + BitVec.ofNat 32 (k + 1)).toNat : Int) := by
  rw [BitVec.toNat_add, BitVec.toNat_add, BitVec.toNat_ofNat]; omega
theorem shl7 (x : W32) : (x.toNat : Int) * (128 : Int) % (4294967296 : Int) = ((x <<< 7).toNat : Int) := by
  rw [BitVec.toNat_shiftLeft, Nat.shiftLeft_eq]; omega
theorem shl13 (x : W32) : (x.toNat : Int) * (8192 : Int) % (4294967296 : Int) = ((x <<< 13).toNat : Int) := by
  rw [BitVec.toNat_shiftLeft, Nat.shiftLeft_eq]; omega
theorem shr25 (x : W32) : (x.toNat : Int) / (33554432 : Int) = ((x >>> 25).toNat : Int) := by
  rw [BitVec.toNat_ushiftRight, Nat.shiftRight_eq_div_pow]; omega
theorem shr19 (x : W32) : (x.toNat : Int) / (524288 : Int) = ((x >>> 19).toNat : Int) := by
  rw [BitVec.toNat_ushiftRight, Nat.shiftRight_eq_div_pow]; omega
def u (x : W32) : Int := (x.toNat : Int)
theorem u_xor (x y : W32) : bits .xor .u32 (u x) (u y) = u (x ^^^ y) := bits_xor x y
theorem u_bd (x : W32) : 0 ≤ u x ∧ u x < 4294967296 := by have := x.isLt; unfold u; omega
def wn : Nat → List UInt8 → Nat
  | 0, _ => 0
  | k + 1, l => wn k l * 256 + (l.getD k 0).toNat
def wd (l : List UInt8) : W32 := BitVec.ofNat 32 (wn 4 l)
theorem wn_lt (k : Nat) (l : List UInt8) : wn k l < 256 ^ k := by
  induction k with
  | zero => simp [wn]
  | succ k ih =>
    have := (l.getD k 0).toNat_lt
    simp only [wn, Nat.pow_succ]; omega
theorem wd_toNat (l : List UInt8) : (wd l).toNat = wn 4 l := by
  have := wn_lt 4 l
  simp only [wd, BitVec.toNat_ofNat]; omega
theorem wn_take (l : List UInt8) : ∀ k, k ≤ 4 → wn k (l.take 4) = wn k l
  | 0, _ => rfl
  | k + 1, h => by
    have e : (l.take 4).getD k 0 = l.getD k 0 := by rw [List.getD_eq_getElem?_getD, List.getD_eq_getElem?_getD, List.getElem?_take_of_lt (by omega)]
    rw [wn, wn, wn_take l k (by omega), e]
theorem wd_take (l : List UInt8) : wd (l.take 4) = wd l := by
  rw [wd, wn_take l 4 (Nat.le_refl _)]; rfl
theorem ofNat_mod (n : Nat) : UInt8.ofNat (n % 256) = UInt8.ofNat n := by
  apply UInt8.toNat_inj.1; simp
def four (x : W32) : List UInt8 := [UInt8.ofNat (x.toNat / 16777216), UInt8.ofNat (x.toNat / 65536), UInt8.ofNat (x.toNat / 256), UInt8.ofNat x.toNat]
def absorb : List UInt8 → W32 × W32 → W32 × W32
  | [], p => p
  | c :: l, p => absorb (l.drop 3) (stir (p.1 ^^^ wd (c :: l), p.2))
termination_by l => l.length
decreasing_by simp; omega
theorem absorb_step (l : List UInt8) (p : W32 × W32) (h : l ≠ []) : absorb l p = absorb (l.drop 4) (stir (p.1 ^^^ wd l, p.2)) := by
  cases l with
  | nil => exact absurd rfl h
  | cons c l => rw [absorb]; rfl
theorem absorb_nil (p : W32 × W32) : absorb [] p = p := by rw [absorb]
def mixW (key text : List UInt8) : W32 × W32 :=
  let p := absorb text (wd key, wd (key.drop 4))
  stir (stir (p.1, p.2 ^^^ BitVec.ofNat 32 text.length))
def mixed (key text : List UInt8) : List UInt8 := four (mixW key text).1 ++ four (mixW key text).2
theorem four_length (x : W32) : (four x).length = 4 := rfl
theorem mixed_length (key text : List UInt8) : (mixed key text).length = 8 := rfl
def str (l : List UInt8) : ByteArray := ⟨l.toArray⟩
theorem str_toList (l : List UInt8) : (str l).data.toList = l := rfl
theorem str_append (a b : List UInt8) : str a ++ str b = str (a ++ b) := by
  apply ByteArray.ext; simp [str, ByteArray.data_append]
theorem str_size (l : List UInt8) : (str l).size = l.length := rfl
theorem str_four_size (x : W32) : (str (four x)).size = 4 := rfl
theorem len_list (s : ByteArray) : s.data.toList.length = s.size := by simp
theorem ext_drop (s : ByteArray) (k : Nat) : (s.extract k s.size).data.toList = s.data.toList.drop k := by
  simp [ByteArray.data_extract]
  rw [List.take_of_length_le]; rw [List.length_drop, len_list]; omega
theorem below_tr {a b c : World} (h : Below a.heap.size a b) (k : Below b.heap.size b c) : Below a.heap.size a c := h.trans (k.mono h.size)
def maskB (key : List UInt8) (i : Nat) : List UInt8 := mixed key [115, UInt8.ofNat i]
def maskAt (key : List UInt8) (j : Nat) : UInt8 := (maskB key (j / 8)).getD (j % 8) 0
def veilN (key text : List UInt8) (n : Nat) : List UInt8 := (List.range n).map fun j => text.getD j 0 ^^^ maskAt key j
def veil (key text : List UInt8) : List UInt8 := veilN key text text.length
def tagL (key head cover : List UInt8) : List UInt8 := mixed key (116 :: (head ++ cover))
def sealL (key head text : List UInt8) : List UInt8 := veil key text ++ tagL key head (veil key text)
theorem maskB_length (key : List UInt8) (i : Nat) : (maskB key i).length = 8 := rfl
theorem veilN_length (key text : List UInt8) (n : Nat) : (veilN key text n).length = n := by simp [veilN]
theorem veil_length (key text : List UInt8) : (veil key text).length = text.length := veilN_length _ _ _
theorem tagL_length (key head cover : List UInt8) : (tagL key head cover).length = 8 := rfl
theorem sealL_length (key head text : List UInt8) : (sealL key head text).length = text.length + 8 := by
  rw [sealL, List.length_append, veil_length, tagL_length]
theorem veilN_succ (key text : List UInt8) (n : Nat) : veilN key text (n + 1) = veilN key text n ++ [text.getD n 0 ^^^ maskAt key n] := by
  simp [veilN, List.range_succ]
theorem veilN_getD (key text : List UInt8) (n j : Nat) (h : j < n) : (veilN key text n).getD j 0 = text.getD j 0 ^^^ maskAt key j := by
  rw [List.getD_eq_getElem?_getD, veilN, List.getElem?_map, List.getElem?_range h]; rfl
theorem getD_of_getElem (l : List UInt8) (j : Nat) (h : j < l.length) : l.getD j 0 = l[j] := by
  rw [List.getD_eq_getElem?_getD, List.getElem?_eq_getElem h]; rfl
theorem ext_getD (a b : List UInt8) (hl : a.length = b.length) (h : ∀ j, j < a.length → a.getD j 0 = b.getD j 0) : a = b := by
  apply List.ext_getElem hl
  intro j h1 h2
  have := h j h1
  rwa [getD_of_getElem a j h1, getD_of_getElem b j h2] at this
theorem veil_veil (key text : List UInt8) : veil key (veil key text) = text := by
  apply ext_getD
  · rw [veil_length, veil_length]
  · intro j hj
    rw [veil_length, veil_length] at hj
    rw [veil, veilN_getD _ _ _ _ (by rw [veil_length]; exact hj), veil, veilN_getD _ _ _ _ hj, UInt8.xor_assoc, UInt8.xor_self, UInt8.xor_zero]
def opensL (key head sealed : List UInt8) : Prop := sealed.drop (sealed.length - 8) = tagL key head (sealed.take (sealed.length - 8))
instance (key head sealed : List UInt8) : Decidable (opensL key head sealed) := inferInstanceAs (Decidable (_ = _))
theorem seal_opens (key head text : List UInt8) : opensL key head (sealL key head text) := by
  rw [opensL, sealL_length, Nat.add_sub_cancel, sealL, List.drop_left' (veil_length _ _), List.take_left' (veil_length _ _)]
theorem seal_take (key head text : List UInt8) : (sealL key head text).take ((sealL key head text).length - 8) = veil key text := by
  rw [sealL_length, Nat.add_sub_cancel, sealL, List.take_left' (veil_length _ _)]
def cellsOf (l : List UInt8) : List Value := l.map fun c => .int .u8 (c.toNat : Int)
theorem cellsOf_append (a b : List UInt8) : cellsOf (a ++ b) = cellsOf a ++ cellsOf b := by simp [cellsOf]
theorem cellsOf_length (a : List UInt8) : (cellsOf a).length = a.length := by simp [cellsOf]
theorem cellsOf_at (a : List UInt8) (j : Nat) (h : j < a.length) : (cellsOf a)[j]? = some (.int .u8 (a[j].toNat : Int)) := by simp [cellsOf, List.getElem?_eq_getElem h]
theorem ownsRow_below {w w' : World} {base : Nat} {e : TypeId} {size : Nat} {v : Value} {n : Nat} {xs : List Value} (h : w.ownsRow base e size v n xs) (hb : Below w.heap.size w w') : w'.ownsRow base e size v n xs := by
  refine ⟨h.1, ?_⟩
  rcases h.2 with hn | ⟨g, cap, cur, rfl, hg, hgg, rest⟩
  · exact .inl hn
  · refine .inr ⟨g, cap, cur, rfl, hg, ?_, rest⟩
    have hlt : g < w.heap.size := by
      rcases Nat.lt_or_ge g w.heap.size with h | h
      · exact h
      · rw [Array.getElem?_eq_none h] at hgg; cases hgg
    rw [hb.block g hlt]; exact hgg
theorem ownsRow_drew {w : World} {base : Nat} {e : TypeId} {size : Nat} {v : Value} {n : Nat} {xs : List Value} (h : w.ownsRow base e size v n xs) : w.drew.ownsRow base e size v n xs := h
structure RecM where
  stop : Bool
  to : Nat
  data : List UInt8
deriving Inhabited
def recsF (n : Nat) : Nat → List UInt8 → Option (List RecM)
  | _, [] => some []
  | 0, _ :: _ => none
  | k + 1, b :: t =>
    if b = 255 then (recsF n k t).map (⟨true, 255, []⟩ :: ·)
    else if n ≤ b.toNat ∨ t.length < 32 then none
    else (recsF n k (t.drop 32)).map (⟨false, b.toNat, t.take 32⟩ :: ·)
def recsL (plan : List UInt8) (n : Nat) : Option (List RecM) := recsF n 100 plan
def stoppedL (l : List RecM) (i n : Nat) : Bool := (List.range n).any fun j => decide (i < j) && (l.getD j default).stop
def looseL (l : List RecM) (i n : Nat) : Nat := ((List.range i).filter fun j => !(l.getD j default).stop && !stoppedL l j n).length
def writtenL (l : List RecM) (i n : Nat) (keep : List UInt8) : Bool := !(l.getD i default).stop && (stoppedL l i n || (decide (looseL l i n < keep.length) && keep.getD (looseL l i n) 0 == 49))
def secL (d : List UInt8) (s : Nat) : List UInt8 := (d.drop (s * 32)).take 32
def dataF (d : List UInt8) (l : List RecM) (n : Nat) (keep : List UInt8) (s : Nat) : Nat → List UInt8
  | 0 => secL d s
  | i + 1 => if (l.getD i default).to = s ∧ writtenL l i n keep = true then (l.getD i default).data else dataF d l n keep s i
def leftF (d : List UInt8) (l : List RecM) (n : Nat) (keep : List UInt8) : Nat → List UInt8
  | 0 => []
  | s + 1 => leftF d l n keep s ++ dataF d l n keep s n
def leftL (d : List UInt8) (l : List RecM) (n : Nat) (keep : List UInt8) : List UInt8 := leftF d l n keep (d.length / 32)
def isDiskL (d : List UInt8) : Bool := decide (d.length % 32 = 0 ∧ 32 ≤ d.length ∧ d.length ≤ 1280)
theorem looseL_succ (l : List RecM) (i n : Nat) : looseL l (i + 1) n = looseL l i n + if (!(l.getD i default).stop && !stoppedL l i n) = true then 1 else 0 := by
  simp only [looseL, List.range_succ, List.filter_append, List.length_append]
  congr 1
  rw [List.filter_cons, List.filter_nil]
  split <;> rfl
theorem stoppedL_hit (l : List RecM) (i j n : Nat) (h1 : i < j) (h2 : j < n) (h3 : (l.getD j default).stop = true) : stoppedL l i n = true := by
  rw [stoppedL, List.any_eq_true]
  exact ⟨j, List.mem_range.2 h2, by rw [h3]; simp [h1]⟩
def RecM.ok (n : Nat) (r : RecM) : Prop := (r.stop = true ∧ r.to = 255 ∧ r.data = []) ∨ (r.stop = false ∧ r.to < n ∧ r.to < 255 ∧ r.data.length = 32)
theorem recsF_ok (n : Nat) : ∀ (k : Nat) (p : List UInt8) (l : List RecM), recsF n k p = some l → l.length ≤ k ∧ ∀ r ∈ l, r.ok n
  | 0, [], l, h => by simp [recsF] at h; subst h; simp
  | k + 1, [], l, h => by simp [recsF] at h; subst h; simp
  | 0, b :: t, l, h => by simp [recsF] at h
  | k + 1, b :: t, l, h => by
    rw [recsF] at h
    by_cases h1 : b = 255
    · rw [if_pos h1] at h
      obtain ⟨l', h2, rfl⟩ := Option.map_eq_some_iff.1 h; obtain ⟨h3, h4⟩ := recsF_ok n k t l' h2
      refine ⟨by simp; omega, ?_⟩
      intro r hr
      rcases List.mem_cons.1 hr with rfl | hr
      · exact .inl ⟨rfl, rfl, rfl⟩
      · exact h4 r hr
    · rw [if_neg h1] at h
      by_cases h2 : n ≤ b.toNat ∨ t.length < 32
      · rw [if_pos h2] at h; cases h
      · rw [if_neg h2] at h
        obtain ⟨l', h3, rfl⟩ := Option.map_eq_some_iff.1 h; obtain ⟨h4, h5⟩ := recsF_ok n k _ l' h3
        refine ⟨by simp; omega, ?_⟩
        intro r hr
        rcases List.mem_cons.1 hr with rfl | hr
        · refine .inr ⟨rfl, Nat.lt_of_not_le fun e => h2 (.inl e), ?_, by show (t.take 32).length = 32; rw [List.length_take]; omega⟩
          have := b.toNat_lt
          have : b.toNat ≠ 255 := fun e => h1 (UInt8.toNat_inj.1 e)
          show b.toNat < 255
          omega
        · exact h5 r hr
def recCells (r : RecM) : List Value := [.bool r.stop, .int .i64 r.to, .string (str r.data)]
def recsCells : List RecM → List Value
  | [] => []
  | r :: l => recCells r ++ recsCells l
theorem recsCells_at : ∀ (a : List RecM) (j : Nat) (h : j < a.length), (recsCells a)[j * 3]? = some (.bool a[j].stop) ∧ (recsCells a)[j * 3 + 1]? = some (.int .i64 (a[j].to : Int)) ∧ (recsCells a)[j * 3 + 2]? = some (.string (str a[j].data))
  | r :: a, 0, _ => ⟨rfl, rfl, rfl⟩
  | r :: a, j + 1, h => by
    obtain ⟨h1, h2, h3⟩ := recsCells_at a j (by simpa using h)
    refine ⟨?_, ?_, ?_⟩
    · rw [show (j + 1) * 3 = j * 3 + 3 by omega]; exact h1
    · rw [show (j + 1) * 3 + 1 = (j * 3 + 1) + 3 by omega]; exact h2
    · rw [show (j + 1) * 3 + 2 = (j * 3 + 2) + 3 by omega]; exact h3
def RecsAt (w : World) (v : Value) (l : List RecM) : Prop :=
  (v = .slice none 0 0 ∧ l = []) ∨ ∃ g cap, v = .slice (some ⟨g, 0, none⟩) l.length cap ∧ l.length ≤ cap ∧ g < w.heap.size ∧
    ∀ j (h : j < l.length), w.cell? ⟨g, j * 3, none⟩ = some (.bool l[j].stop) ∧ w.cell? ⟨g, j * 3 + 1, none⟩ = some (.int .i64 (l[j].to : Int)) ∧ w.cell? ⟨g, j * 3 + 2, none⟩ = some (.string (str l[j].data))
theorem RecsAt.next {w w' : World} {v : Value} {l : List RecM} (h : RecsAt w v l) (hb : Below w.heap.size w w') : RecsAt w' v l := by
  rcases h with h | ⟨g, cap, h1, h2, h3, h4⟩
  · exact .inl h
  · refine .inr ⟨g, cap, h1, h2, Nat.lt_of_lt_of_le h3 hb.size, fun j hj => ?_⟩
    obtain ⟨a, b, c⟩ := h4 j hj; exact ⟨(hb.cell (p := ⟨g, j * 3, none⟩) h3).trans a, (hb.cell (p := ⟨g, j * 3 + 1, none⟩) h3).trans b, (hb.cell (p := ⟨g, j * 3 + 2, none⟩) h3).trans c⟩
theorem RecsAt.of_own {w : World} {base : Nat} {e : TypeId} {v : Value} {l : List RecM} (h : w.ownsRow base e 3 v l.length (recsCells l)) : RecsAt w v l := by
  rcases h.2 with ⟨rfl, h0⟩ | ⟨g, cap, cur, hv, hg, hgg, hn, _, _, _⟩
  · exact .inl ⟨rfl, List.eq_nil_of_length_eq_zero h0⟩
  · refine .inr ⟨g, cap, hv, hn, (h.lt g (by rw [hv]; rfl)).2, fun j hj => ?_⟩
    obtain ⟨a, b, c⟩ := recsCells_at l j hj; subst hv
    refine ⟨?_, ?_, ?_⟩
    · rw [h.cellAt (j * 3) (by omega)]; exact a
    · rw [h.cellAt (j * 3 + 1) (by omega)]; exact b
    · rw [h.cellAt (j * 3 + 2) (by omega)]; exact c
theorem r7_bit (x : W32) (i : Nat) (h : i < 32) : (r7 x).getLsbD ((i + 7) % 32) = x.getLsbD i := by
  unfold r7
  rw [BitVec.getLsbD_or, BitVec.getLsbD_shiftLeft, BitVec.getLsbD_ushiftRight]
  by_cases h' : i < 25
  · rw [show (i + 7) % 32 = i + 7 by omega, show i + 7 - 7 = i by omega, BitVec.getLsbD_of_ge x (25 + (i + 7)) (by omega)]
    simp; omega
  · rw [show (i + 7) % 32 = i - 25 by omega, show 25 + (i - 25) = i by omega]
    have : i - 25 < 7 := by omega
    simp [this]
theorem r13_bit (x : W32) (i : Nat) (h : i < 32) : (r13 x).getLsbD ((i + 13) % 32) = x.getLsbD i := by
  unfold r13
  rw [BitVec.getLsbD_or, BitVec.getLsbD_shiftLeft, BitVec.getLsbD_ushiftRight]
  by_cases h' : i < 19
  · rw [show (i + 13) % 32 = i + 13 by omega, show i + 13 - 13 = i by omega, BitVec.getLsbD_of_ge x (19 + (i + 13)) (by omega)]
    simp; omega
  · rw [show (i + 13) % 32 = i - 19 by omega, show 19 + (i - 19) = i by omega]
    have : i - 19 < 13 := by omega
    simp [this]
theorem r7_inj {x y : W32} (h : r7 x = r7 y) : x = y := by
  apply BitVec.eq_of_getLsbD_eq
  intro i hi
  rw [← r7_bit x i hi, ← r7_bit y i hi, h]
theorem r13_inj {x y : W32} (h : r13 x = r13 y) : x = y := by
  apply BitVec.eq_of_getLsbD_eq
  intro i hi
  rw [← r13_bit x i hi, ← r13_bit y i hi, h]
theorem xor_cancel_right {a b c : W32} (h : a ^^^ c = b ^^^ c) : a = b := by
  have := congrArg (· ^^^ c) h
  simpa [BitVec.xor_assoc] using this
theorem xor_cancel_left {a b c : W32} (h : c ^^^ a = c ^^^ b) : a = b := by
  rw [BitVec.xor_comm c a, BitVec.xor_comm c b] at h; exact xor_cancel_right h
theorem add_cancel_right {a b c : W32} (h : a + c = b + c) : a = b := by
  have := congrArg (· - c) h
  simpa using this
theorem rnd_inj (i : Nat) {p q : W32 × W32} (h : rnd i p = rnd i q) : p = q := by
  obtain ⟨p1, p2⟩ := p; obtain ⟨q1, q2⟩ := q
  simp only [rnd, Prod.mk.injEq] at h
  obtain ⟨h1, h2⟩ := h
  generalize ha : p1 + p2 + BitVec.ofNat 32 i = a at h1 h2
  generalize hb : q1 + q2 + BitVec.ofNat 32 i = b at h1 h2
  rw [← h1] at h2
  have h3 := add_cancel_right h2
  rw [h3] at h1
  have h4 : a = b := r13_inj (xor_cancel_right h1); subst h4; have h5 : p2 = q2 := r7_inj (xor_cancel_right h3); subst h5
  have h6 : p1 = q1 := by rw [← hb] at ha; exact add_cancel_right (add_cancel_right ha)
  rw [h6]
theorem rnds_inj : ∀ (k : Nat) {p q : W32 × W32}, rnds k p = rnds k q → p = q
  | 0, _, _, h => h
  | k + 1, _, _, h => rnds_inj k (rnd_inj (k + 1) h)
theorem stir_inj {p q : W32 × W32} (h : stir p = stir q) : p = q := rnds_inj 3 h
theorem absorb_inj (l : List UInt8) : ∀ {p q : W32 × W32}, absorb l p = absorb l q → p = q := by
  generalize hn : l.length = n
  induction n using Nat.strongRecOn generalizing l with
  | _ n ih =>
    intro p q h
    by_cases hl : l = []
    · subst hl; rwa [absorb_nil, absorb_nil] at h
    · rw [absorb_step l p hl, absorb_step l q hl] at h
      have hlen : (l.drop 4).length < n := by
        have : 0 < l.length := List.length_pos_iff.2 hl
        rw [List.length_drop]; omega
      have h1 := stir_inj (ih _ hlen (l.drop 4) rfl h)
      simp only [Prod.mk.injEq] at h1
      exact Prod.ext (xor_cancel_right h1.1) h1.2
theorem wn_inj : ∀ (k : Nat) (x y : List UInt8), wn k x = wn k y → ∀ j, j < k → x.getD j 0 = y.getD j 0
  | 0, _, _, _, j, hj => by omega
  | k + 1, x, y, h, j, hj => by
    have hx := (x.getD k 0).toNat_lt; have hy := (y.getD k 0).toNat_lt
    simp only [wn] at h
    rcases Nat.lt_or_ge j k with hlt | hge
    · exact wn_inj k x y (by omega) j hlt
    · obtain rfl : j = k := by omega
      exact UInt8.toNat_inj.1 (by omega)
theorem wd_inj {x y : List UInt8} (h : wd x = wd y) : ∀ j, j < 4 → x.getD j 0 = y.getD j 0 :=
  wn_inj 4 x y (by rw [← wd_toNat, ← wd_toNat, h])
theorem absorb_flip (b : List UInt8) (c d : UInt8) (hcd : c ≠ d) : ∀ (a : List UInt8) (p : W32 × W32), absorb (a ++ c :: b) p ≠ absorb (a ++ d :: b) p := by
  intro a
  generalize hn : a.length = n
  induction n using Nat.strongRecOn generalizing a with
  | _ n ih =>
    intro p h
    rw [absorb_step (a ++ c :: b) p (by simp), absorb_step (a ++ d :: b) p (by simp)] at h
    by_cases h4 : 4 ≤ n
    · have e : ∀ e : UInt8, wd (a ++ e :: b) = wd a := by
        intro e
        rw [← wd_take, ← wd_take a, List.take_append_of_le_length (by omega)]
      rw [e, e, List.drop_append_of_le_length (by omega), List.drop_append_of_le_length (by omega)] at h
      exact ih (a.drop 4).length (by rw [List.length_drop]; omega) (a.drop 4) rfl _ h
    · have e : ∀ e : UInt8, (a ++ e :: b).drop 4 = b.drop (3 - n) := by
        intro e
        rw [List.drop_append, List.drop_eq_nil_of_le (by omega), List.nil_append, show 4 - a.length = (3 - n) + 1 by omega, List.drop_succ_cons]
      rw [e, e] at h
      have h1 := stir_inj (absorb_inj _ h)
      simp only [Prod.mk.injEq] at h1
      have h2 := wd_inj (xor_cancel_left h1.1) n (by omega)
      rw [List.getD_eq_getElem?_getD, List.getD_eq_getElem?_getD, List.getElem?_append_right (by omega), List.getElem?_append_right (by omega)] at h2
      simp [hn] at h2
      exact hcd h2
theorem four_inj {x y : W32} (h : four x = four y) : x = y := by
  simp only [four, List.cons.injEq, and_true] at h
  obtain ⟨h1, h2, h3, h4⟩ := h
  have f : ∀ m n : Nat, UInt8.ofNat m = UInt8.ofNat n → m % 256 = n % 256 := by
    intro m n e
    have := congrArg UInt8.toNat e
    simpa using this
  have g1 := f _ _ h1; have g2 := f _ _ h2; have g3 := f _ _ h3; have g4 := f _ _ h4
  have := x.isLt
  have := y.isLt
  apply BitVec.eq_of_toNat_eq
  omega
theorem mixed_inj {key x y : List UInt8} (h : mixed key x = mixed key y) : mixW key x = mixW key y := by
  unfold mixed at h
  obtain ⟨h1, h2⟩ := List.append_inj h (by rw [four_length, four_length])
  exact Prod.ext (four_inj h1) (four_inj h2)
theorem mixed_flip (key a b : List UInt8) (c d : UInt8) (hcd : c ≠ d) : mixed key (a ++ c :: b) ≠ mixed key (a ++ d :: b) := by
  intro h
  have h1 := mixed_inj h
  simp only [mixW] at h1
  have h2 := stir_inj (stir_inj h1)
  simp only [Prod.mk.injEq] at h2
  have hl : (a ++ c :: b).length = (a ++ d :: b).length := by simp
  rw [hl] at h2
  exact absorb_flip b c d hcd a _ (Prod.ext h2.1 (xor_cancel_right h2.2))
theorem flip_at (l : List UInt8) (i : Nat) (d : UInt8) (h : i < l.length) : l.set i d = l.take i ++ d :: l.drop (i + 1) := by
  rw [List.set_eq_take_append_cons_drop, if_pos h]
theorem self_at (l : List UInt8) (i : Nat) (h : i < l.length) : l = l.take i ++ l.getD i 0 :: l.drop (i + 1) := by
  conv => lhs; rw [← List.set_getElem_self h]
  rw [flip_at _ _ _ h, getD_of_getElem l i h]
theorem mixed_set (key l : List UInt8) (i : Nat) (d : UInt8) (h : i < l.length) (hd : d ≠ l.getD i 0) : mixed key (l.set i d) ≠ mixed key l := by
  rw [flip_at l i d h]
  intro e
  have e2 := self_at l i h
  rw [e2] at e
  rw [← e2] at e
  have : mixed key (l.take i ++ d :: l.drop (i + 1)) = mixed key (l.take i ++ l.getD i 0 :: l.drop (i + 1)) := by rw [e, ← e2]
  exact mixed_flip key _ _ _ _ hd this
theorem flip_shut (key head text : List UInt8) (hh : head.length = 7) (i : Nat) (d : UInt8) (hi : i < (head ++ sealL key head text).length) (hd : d ≠ (head ++ sealL key head text).getD i 0) :
    ¬ opensL key (((head ++ sealL key head text).set i d).take 7) (((head ++ sealL key head text).set i d).drop 7) := by
  have hsl := sealL_length key head text
  rw [List.length_append, hh] at hi
  intro ho
  rw [opensL, List.length_drop, List.length_set, List.length_append, hh, hsl, show 7 + (text.length + 8) - 7 - 8 = text.length by omega] at ho
  have hv := veil_length key text
  rcases Nat.lt_or_ge i 7 with h7 | h7
  · -- in the head
    rw [List.set_append_left _ _ (by omega), List.take_left' (by rw [List.length_set]; exact hh), List.drop_left' (by rw [List.length_set]; exact hh)] at ho
    rw [sealL, List.drop_left' hv, List.take_left' hv] at ho
    rw [List.getD_eq_getElem?_getD, List.getElem?_append_left (by omega), ← List.getD_eq_getElem?_getD] at hd
    have := mixed_set key (116 :: (head ++ veil key text)) (i + 1) d (by simp; omega) (by
      rw [List.getD_cons_succ, List.getD_eq_getElem?_getD, List.getElem?_append_left (by omega), ← List.getD_eq_getElem?_getD]; exact hd)
    rw [List.set_cons_succ, List.set_append_left _ _ (by omega)] at this
    exact this ho.symm
  · rw [List.set_append_right _ _ (by omega), hh, List.take_left' hh, List.drop_left' hh] at ho
    rw [List.getD_eq_getElem?_getD, List.getElem?_append_right (by omega), hh, ← List.getD_eq_getElem?_getD] at hd
    rcases Nat.lt_or_ge (i - 7) text.length with hc | hc
    · -- in the cover
      rw [sealL, List.set_append_left _ _ (by omega), List.drop_left' (by rw [List.length_set]; exact hv), List.take_left' (by rw [List.length_set]; exact hv)] at ho
      rw [sealL, List.getD_eq_getElem?_getD, List.getElem?_append_left (by omega), ← List.getD_eq_getElem?_getD] at hd
      have := mixed_set key (116 :: (head ++ veil key text)) (i + 1) d (by simp; omega) (by
        rw [List.getD_cons_succ, List.getD_eq_getElem?_getD, List.getElem?_append_right (by omega), hh, ← List.getD_eq_getElem?_getD]; exact hd)
      rw [List.set_cons_succ, List.set_append_right _ _ (by omega), hh] at this
      exact this ho.symm
    · -- in the tag
      rw [sealL, List.set_append_right _ _ (by omega), List.drop_left' hv, List.take_left' hv, hv] at ho
      rw [sealL, List.getD_eq_getElem?_getD, List.getElem?_append_right (by omega), hv, ← List.getD_eq_getElem?_getD] at hd
      have hlt : i - 7 - text.length < (tagL key head (veil key text)).length := by rw [tagL_length]; omega
      have := congrArg (fun l => l.getD (i - 7 - text.length) 0) ho
      rw [List.getD_eq_getElem?_getD, List.getElem?_set_self hlt] at this
      exact hd this
end Go.Proofs.Ytabpkohcimiceab
