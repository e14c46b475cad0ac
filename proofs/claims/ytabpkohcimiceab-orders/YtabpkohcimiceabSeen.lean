import Derived.Test.YtabpkohcimiceabBoxS
import Derived.Test.YtabpkohcimiceabDisk
import Derived.Test.YtabpkohcimiceabPlanA
import Derived.WalkKit
import Derived.WalkSpells
import Derived.WalkLawsBesides
import Derived.OwnWalk
import Derived.Laws.ResultCell
import Derived.Deep.RegionHeld3
import Derived.BigRegion
import Derived.Deep.RegionLaw
import Derived.Deep.AppendLies
import Derived.Deep.DrawnRows
import Derived.Deep.DeepCutAuto
namespace Go.Proofs.Ytabpkohcimiceab
open Go.RowKit
set_option linter.unusedVariables false

/-! ### What a side seems to hold -/
def entAt (t : List UInt8) (i : Nat) : EntM := ⟨(t.getD (40 + 10 * i) 0).toNat, (t.getD (41 + 10 * i) 0).toNat, (t.drop (42 + 10 * i)).take 8⟩
def seenN (t : List UInt8) (c n : Nat) : StM :=
  { role := (t.getD 0 0).toNat, step := (t.getD 1 0).toNat, sent := (t.getD 2 0).toNat, got := (t.getD 3 0).toNat, prev := (t.getD 4 0).toNat, skip := (t.getD 5 0).toNat, cap := c, root := (t.drop 8).take 8, out := (t.drop 16).take 8, inn := (t.drop 24).take 8, secret := wn 4 (t.drop 32), peer := wn 4 (t.drop 36), kept := (List.range n).map (entAt t) }
def seenS (t : List UInt8) (c : Nat) : StM := seenN t c (t.getD 7 0).toNat
theorem kept_len (t : List UInt8) (n : Nat) : ((List.range n).map (entAt t)).length = n := by simp
theorem kept_push (t : List UInt8) (n : Nat) : entsCells ((List.range (n + 1)).map (entAt t)) = entsCells ((List.range n).map (entAt t)) ++ entCells (entAt t n) := by
  rw [List.range_succ, List.map_append, entsCells_append]; simp [entsCells]
theorem ext_sub (s : ByteArray) (a b : Nat) : s.extract a b = str ((s.data.toList.drop a).take (b - a)) := by
  rw [← str_of (s.extract a b)]
  congr 1
  simp [ByteArray.data_extract]

/-- The zero box. -/
def zeroCells13 : Array Value := #[.int .i64 0, .int .i64 0, .int .i64 0, .int .i64 0, .int .i64 0, .int .i64 0, .int .i64 0, .string ⟨#[]⟩, .string ⟨#[]⟩, .string ⟨#[]⟩, .int .i64 0, .int .i64 0, .slice none 0 0]

theorem ownsRow_base {w : World} {base b2 : Nat} {e : TypeId} {size : Nat} {v : Value} {n : Nat} {xs : List Value} (h : w.ownsRow base e size v n xs) (hb : b2 ≤ base) : w.ownsRow b2 e size v n xs :=
  ⟨h.1, h.2.imp id fun ⟨g, cap, cur, h1, h2, h3⟩ => ⟨g, cap, cur, h1, Nat.le_trans hb h2, h3⟩⟩
theorem far_block {wr w2 : World} {A : Nat} {o : Obj} {kv : Value} {i : Nat} {xs : List Value} {e : TypeId} (hown : wr.ownsRow (A + 1 + 1) e 3 kv i xs) (B : Nat) (hB : B ≤ A + 1) (hlt : B < wr.heap.size) (hg : (wr.alloc o).drew.grownBy w2 kv.ownBlock) : w2.heap[B]? = wr.heap[B]? := by
  have h1 := hg.block B (by simp; omega) (fun e => by have := (hown.lt B e.symm).1; omega)
  exact h1.trans (Below.heap_alloc wr o B hlt)
theorem far12 {wr w2 : World} {A : Nat} {o : Obj} {kv : Value} {i : Nat} {xs : List Value} {e : TypeId} (hown : wr.ownsRow (A + 1 + 1) e 3 kv i xs) (h12 : wr.cell? ⟨A + 1, 12, none⟩ = some kv) (hfr : wr.frozen? ⟨A + 1, 12, none⟩ = false) (hlt : A + 1 < wr.heap.size) (hg : (wr.alloc o).drew.grownBy w2 kv.ownBlock) :
    w2.cell? ⟨A + 1, 12, none⟩ = some kv ∧ w2.frozen? ⟨A + 1, 12, none⟩ = false := by
  have h := far_block hown (A + 1) (Nat.le_refl _) hlt hg
  exact ⟨(World.cell?_of_block (a := ⟨A + 1, 12, none⟩) h).trans h12, (World.frozen?_of_block (a := ⟨A + 1, 12, none⟩) h).trans hfr⟩

theorem entCells_at (t : List UInt8) (i : Nat) (x : ByteArray) (h10 : x.size = 10) (hx : x.data.toList = (t.drop (40 + 10 * i)).take 10) :
    [.int .i64 ((x[0]'(by omega)).toNat : Int), .int .i64 ((x[1]'(by omega)).toNat : Int), .string (x.extract 2 10)] = entCells (entAt t i) := by
  have e0 := getD_at x 0 (by omega)
  have e1 := getD_at x 1 (by omega)
  rw [hx, getD_tk, if_pos (by omega), getD_dp] at e0 e1
  have e2 : x.extract 2 10 = str ((t.drop (42 + 10 * i)).take 8) := by
    rw [ext_sub, hx]
    congr 1
    rw [List.drop_take, List.drop_drop, List.take_take]
    congr 2 <;> omega
  rw [entCells, entAt, e2]
  simp only
  rw [← e0, ← e1]
  simp only [Nat.add_zero]
  rw [show 40 + 10 * i + 1 = 41 + 10 * i by omega]

end Go.Proofs.Ytabpkohcimiceab

namespace Go.Proofs.Ytabpkohcimiceab
open Go.RowKit

/-! ### The box that a disk holds -/
def fromL (d : List UInt8) : Nat := 32 + (d.getD 5 0).toNat * (halfN (d.getD 4 0).toNat * 32)
def sideOf (d : List UInt8) : List UInt8 := (d.drop (fromL d)).take (halfN (d.getD 4 0).toNat * 32)
/-- Sector 0 is right, and there is room. -/
def headOk (d : List UInt8) : Prop := 32 ≤ d.length ∧ (d.getD 4 0).toNat ≤ 30 ∧ (d.getD 5 0).toNat ≤ 1 ∧ d.take 32 = topL (d.getD 4 0).toNat (d.getD 5 0).toNat ∧ 32 + 2 * (halfN (d.getD 4 0).toNat * 32) ≤ d.length
instance (d : List UInt8) : Decidable (headOk d) := inferInstanceAs (Decidable (_ ∧ _))
def sideOk (t : List UInt8) (c : Nat) : Prop := (t.getD 6 0).toNat = c ∧ (t.getD 7 0).toNat ≤ c ∧ lawfulL (seenS t c) = true ∧ sideL (seenS t c) = t
instance (t : List UInt8) (c : Nat) : Decidable (sideOk t c) := inferInstanceAs (Decidable (_ ∧ _))
def heldOk (d : List UInt8) : Prop := headOk d ∧ sideOk (sideOf d) (d.getD 4 0).toNat
instance (d : List UInt8) : Decidable (heldOk d) := inferInstanceAs (Decidable (_ ∧ _))
def heldS (d : List UInt8) : StM := seenS (sideOf d) (d.getD 4 0).toNat
def liveL (d : List UInt8) : Nat := (d.getD 5 0).toNat
/-- What Repair answers: the disk, the error. -/
def repairR (d : List UInt8) : List UInt8 × Int :=
  if isDiskL d = true then
    if d.take 32 = List.replicate 32 0 then (List.replicate d.length 0, 0)
    else if heldOk d then (packL (heldS d) (liveL d) d.length, 0) else ([], 12)
  else ([], 6)

theorem halfN_le (c : Nat) (h : c ≤ 30) : halfN c ≤ 11 ∧ 2 ≤ halfN c ∧ 40 + 10 * c ≤ halfN c * 32 := by unfold halfN; omega
theorem sideOf_length (d : List UInt8) (h : headOk d) : (sideOf d).length = halfN (d.getD 4 0).toNat * 32 := by
  obtain ⟨_, h2, h3, _, h5⟩ := h
  rw [sideOf, List.length_take, List.length_drop, fromL]
  have : (d.getD 5 0).toNat = 0 ∨ (d.getD 5 0).toNat = 1 := by omega
  rcases this with e | e <;> rw [e] <;> omega

theorem part_len (t : List UInt8) (a b : Nat) (h : a + b ≤ t.length) : ((t.drop a).take b).length = b := by
  rw [List.length_take, List.length_drop]; omega
theorem byte_le (c : UInt8) : c.toNat ≤ 255 := by have := c.toNat_lt; omega
theorem seen_ok (t : List UInt8) (c : Nat) (h1 : 40 + 10 * c ≤ t.length) (hc : c ≤ 30) (h7 : (t.getD 7 0).toNat ≤ c) : StOk (seenS t c) := by
  refine ⟨byte_le _, byte_le _, byte_le _, byte_le _, byte_le _, byte_le _, by show c ≤ 255; omega, part_len t 8 8 (by omega), part_len t 16 8 (by omega), part_len t 24 8 (by omega), ?_, ?_, ?_, ?_⟩
  · have := wn_lt 4 (t.drop 32); exact this
  · have := wn_lt 4 (t.drop 36); exact this
  · show ((List.range (t.getD 7 0).toNat).map (entAt t)).length ≤ 255
    rw [kept_len]; omega
  · intro e he
    obtain ⟨i, hi, rfl⟩ := List.mem_map.1 he
    have hi' := List.mem_range.1 hi
    exact ⟨byte_le _, byte_le _, part_len t _ 8 (by omega)⟩
end Go.Proofs.Ytabpkohcimiceab
