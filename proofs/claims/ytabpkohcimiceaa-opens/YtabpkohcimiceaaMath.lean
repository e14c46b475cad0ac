import Derived.WalkKit
namespace Go.Proofs.Ytabpkohcimiceaa
open Go.RowKit

/-! ### Words of 32 bits -/
abbrev W32 := BitVec 32
def r7 (x : W32) : W32 := x <<< 7 ||| x >>> 25
def r13 (x : W32) : W32 := x <<< 13 ||| x >>> 19
def rnd (i : Nat) (p : W32 × W32) : W32 × W32 :=
  (r13 (p.1 + p.2 + BitVec.ofNat 32 i) ^^^ (r7 p.2 ^^^ (p.1 + p.2 + BitVec.ofNat 32 i)),
   (r7 p.2 ^^^ (p.1 + p.2 + BitVec.ofNat 32 i)) + (r13 (p.1 + p.2 + BitVec.ofNat 32 i) ^^^ (r7 p.2 ^^^ (p.1 + p.2 + BitVec.ofNat 32 i))))
def rnds : Nat → W32 × W32 → W32 × W32
  | 0, p => p
  | k + 1, p => rnd (k + 1) (rnds k p)
def stir (p : W32 × W32) : W32 × W32 := rnds 3 p

theorem bits_xor (x y : W32) : bits .xor .u32 (x.toNat : Int) (y.toNat : Int) = ((x ^^^ y).toNat : Int) := by
  simp only [bits, IntKind.bits, BitVec.ofInt_natCast, BitVec.ofNat_toNat, BitVec.setWidth_eq, IntKind.wrap, IntKind.signed, Bool.false_and, Bool.false_eq_true, if_false]
  exact Int.emod_eq_of_lt (Int.natCast_nonneg _) (by have := (x ^^^ y).isLt; exact_mod_cast this)
theorem bits_or (x y : W32) : bits .or .u32 (x.toNat : Int) (y.toNat : Int) = ((x ||| y).toNat : Int) := by
  simp only [bits, IntKind.bits, BitVec.ofInt_natCast, BitVec.ofNat_toNat, BitVec.setWidth_eq, IntKind.wrap, IntKind.signed, Bool.false_and, Bool.false_eq_true, if_false]
  exact Int.emod_eq_of_lt (Int.natCast_nonneg _) (by have := (x ||| y).isLt; exact_mod_cast this)
theorem add_mod (x y : W32) : ((x.toNat : Int) + (y.toNat : Int)) % (4294967296 : Int) = ((x + y).toNat : Int) := by
  rw [BitVec.toNat_add]; omega
theorem add3_mod (x y : W32) (k : Nat) : ((x.toNat : Int) + (y.toNat : Int) + ((k : Int) + 1)) % (4294967296 : Int) = ((x + y + BitVec.ofNat 32 (k + 1)).toNat : Int) := by
  rw [BitVec.toNat_add, BitVec.toNat_add, BitVec.toNat_ofNat]; omega
theorem shl7 (x : W32) : (x.toNat : Int) * (128 : Int) % (4294967296 : Int) = ((x <<< 7).toNat : Int) := by
  rw [BitVec.toNat_shiftLeft, Nat.shiftLeft_eq]; omega
theorem shl13 (x : W32) : (x.toNat : Int) * (8192 : Int) % (4294967296 : Int) = ((x <<< 13).toNat : Int) := by
  rw [BitVec.toNat_shiftLeft, Nat.shiftLeft_eq]; omega
theorem shr25 (x : W32) : (x.toNat : Int) / (33554432 : Int) = ((x >>> 25).toNat : Int) := by
  rw [BitVec.toNat_ushiftRight, Nat.shiftRight_eq_div_pow]; omega
theorem shr19 (x : W32) : (x.toNat : Int) / (524288 : Int) = ((x >>> 19).toNat : Int) := by
  rw [BitVec.toNat_ushiftRight, Nat.shiftRight_eq_div_pow]; omega

/-- A word as the walk shows it: under a name, so that no rule of simp's looks into it. -/
def u (x : W32) : Int := (x.toNat : Int)
theorem u_xor (x y : W32) : bits .xor .u32 (u x) (u y) = u (x ^^^ y) := bits_xor x y
theorem u_bd (x : W32) : 0 ≤ u x ∧ u x < 4294967296 := by have := x.isLt; unfold u; omega

/-! ### Bytes -/
def wn : Nat → List UInt8 → Nat
  | 0, _ => 0
  | k + 1, l => wn k l * 256 + (l.getD k 0).toNat
def wd (l : List UInt8) : W32 := BitVec.ofNat 32 (wn 4 l)
theorem wn_lt (k : Nat) (l : List UInt8) : wn k l < 256 ^ k := by
  induction k with
  | zero => simp [wn]
  | succ k ih =>
    have := (l.getD k 0).toNat_lt
    simp only [wn, Nat.pow_succ]; omega
theorem wd_toNat (l : List UInt8) : (wd l).toNat = wn 4 l := by
  have := wn_lt 4 l
  simp only [wd, BitVec.toNat_ofNat]; omega

theorem wn_take (l : List UInt8) : ∀ k, k ≤ 4 → wn k (l.take 4) = wn k l
  | 0, _ => rfl
  | k + 1, h => by
    have e : (l.take 4).getD k 0 = l.getD k 0 := by rw [List.getD_eq_getElem?_getD, List.getD_eq_getElem?_getD, List.getElem?_take_of_lt (by omega)]
    rw [wn, wn, wn_take l k (by omega), e]
theorem wd_take (l : List UInt8) : wd (l.take 4) = wd l := by
  rw [wd, wn_take l 4 (Nat.le_refl _)]; rfl
theorem ofNat_mod (n : Nat) : UInt8.ofNat (n % 256) = UInt8.ofNat n := by
  apply UInt8.toNat_inj.1; simp
def four (x : W32) : List UInt8 := [UInt8.ofNat (x.toNat / 16777216), UInt8.ofNat (x.toNat / 65536), UInt8.ofNat (x.toNat / 256), UInt8.ofNat x.toNat]

/-- The bytes of a text, taken in four by four. -/
def absorb : List UInt8 → W32 × W32 → W32 × W32
  | [], p => p
  | c :: l, p => absorb (l.drop 3) (stir (p.1 ^^^ wd (c :: l), p.2))
termination_by l => l.length
decreasing_by simp; omega

theorem absorb_step (l : List UInt8) (p : W32 × W32) (h : l ≠ []) : absorb l p = absorb (l.drop 4) (stir (p.1 ^^^ wd l, p.2)) := by
  cases l with
  | nil => exact absurd rfl h
  | cons c l => rw [absorb]; rfl
theorem absorb_nil (p : W32 × W32) : absorb [] p = p := by rw [absorb]
def mixW (key text : List UInt8) : W32 × W32 :=
  let p := absorb text (wd key, wd (key.drop 4))
  stir (stir (p.1, p.2 ^^^ BitVec.ofNat 32 text.length))
def mixed (key text : List UInt8) : List UInt8 := four (mixW key text).1 ++ four (mixW key text).2
theorem four_length (x : W32) : (four x).length = 4 := rfl
theorem mixed_length (key text : List UInt8) : (mixed key text).length = 8 := rfl

def str (l : List UInt8) : ByteArray := ⟨l.toArray⟩
theorem str_toList (l : List UInt8) : (str l).data.toList = l := rfl
theorem str_append (a b : List UInt8) : str a ++ str b = str (a ++ b) := by
  apply ByteArray.ext; simp [str, ByteArray.data_append]
theorem str_size (l : List UInt8) : (str l).size = l.length := rfl
theorem str_four_size (x : W32) : (str (four x)).size = 4 := rfl
theorem len_list (s : ByteArray) : s.data.toList.length = s.size := by simp
theorem ne_nil (s : ByteArray) (h : 0 < s.size) : s.data.toList ≠ [] := by
  intro e; have := congrArg List.length e; rw [len_list, List.length_nil] at this; omega
theorem is_nil (s : ByteArray) (h : ¬ 0 < s.size) : s.data.toList = [] := List.eq_nil_of_length_eq_zero (by rw [len_list]; omega)
theorem ext_drop (s : ByteArray) (k : Nat) : (s.extract k s.size).data.toList = s.data.toList.drop k := by
  simp [ByteArray.data_extract]
  rw [List.take_of_length_le]; rw [List.length_drop, len_list]; omega
theorem below_tr {a b c : World} (h : Below a.heap.size a b) (k : Below b.heap.size b c) : Below a.heap.size a c := h.trans (k.mono h.size)
end Go.Proofs.Ytabpkohcimiceaa
