import Derived.Test.YtabpkohcimiceabPlanA
import Derived.Laws.ResultCell
import Derived.BigRegion
import Derived.Deep.RegionLaw
namespace Go.Proofs.Ytabpkohcimiceab
set_option maxRecDepth 100000
set_option maxHeartbeats 1000000
open Go.RowKit
set_option linter.unusedVariables false
def entAt (t : List UInt8) (i : Nat) : EntM := ⟨(t.getD (40 + 10 * i) 0).toNat, (t.getD (41 + 10 * i) 0).toNat, (t.drop (42 + 10 * i)).take 8⟩
def seenN (t : List UInt8) (c n : Nat) : StM :=
  { role := (t.getD 0 0).toNat, step := (t.getD 1 0).toNat, sent := (t.getD 2 0).toNat, got := (t.getD 3 0).toNat, prev := (t.getD 4 0).toNat, skip := (t.getD 5 0).toNat, cap := c, root := (t.drop 8).take 8, out := (t.drop 16).take 8, inn := (t.drop 24).take 8, secret := wn 4 (t.drop 32), peer := wn 4 (t.drop 36), kept := (List.range n).map (entAt t) }
def seenS (t : List UInt8) (c : Nat) : StM := seenN t c (t.getD 7 0).toNat
theorem kept_len (t : List UInt8) (n : Nat) : ((List.range n).map (entAt t)).length = n := by simp
theorem kept_push (t : List UInt8) (n : Nat) : entsCells ((List.range (n + 1)).map (entAt t)) = entsCells ((List.range n).map (entAt t)) ++ entCells (entAt t n) := by
  rw [List.range_succ, List.map_append, entsCells_append]; simp [entsCells]
def zeroCells13 : Array Value := #[.int .i64 0, .int .i64 0, .int .i64 0, .int .i64 0, .int .i64 0, .int .i64 0, .int .i64 0, .string ⟨#[]⟩, .string ⟨#[]⟩, .string ⟨#[]⟩, .int .i64 0, .int .i64 0, .slice none 0 0]
theorem ownsRow_base {w : World} {base b2 : Nat} {e : TypeId} {size : Nat} {v : Value} {n : Nat} {xs : List Value} (h : w.ownsRow base e size v n xs) (hb : b2 ≤ base) : w.ownsRow b2 e size v n xs :=
  ⟨h.1, h.2.imp id fun ⟨g, cap, cur, h1, h2, h3⟩ => ⟨g, cap, cur, h1, Nat.le_trans hb h2, h3⟩⟩
def fromL (d : List UInt8) : Nat := 32 + (d.getD 5 0).toNat * (halfN (d.getD 4 0).toNat * 32)
def sideOf (d : List UInt8) : List UInt8 := (d.drop (fromL d)).take (halfN (d.getD 4 0).toNat * 32)
def headOk (d : List UInt8) : Prop := 32 ≤ d.length ∧ (d.getD 4 0).toNat ≤ 30 ∧ (d.getD 5 0).toNat ≤ 1 ∧ d.take 32 = topL (d.getD 4 0).toNat (d.getD 5 0).toNat ∧ 32 + 2 * (halfN (d.getD 4 0).toNat * 32) ≤ d.length
instance (d : List UInt8) : Decidable (headOk d) := inferInstanceAs (Decidable (_ ∧ _))
def sideOk (t : List UInt8) (c : Nat) : Prop := (t.getD 6 0).toNat = c ∧ (t.getD 7 0).toNat ≤ c ∧ lawfulL (seenS t c) = true ∧ sideL (seenS t c) = t
instance (t : List UInt8) (c : Nat) : Decidable (sideOk t c) := inferInstanceAs (Decidable (_ ∧ _))
def heldOk (d : List UInt8) : Prop := headOk d ∧ sideOk (sideOf d) (d.getD 4 0).toNat
instance (d : List UInt8) : Decidable (heldOk d) := inferInstanceAs (Decidable (_ ∧ _))
def heldS (d : List UInt8) : StM := seenS (sideOf d) (d.getD 4 0).toNat
def liveL (d : List UInt8) : Nat := (d.getD 5 0).toNat
def repairR (d : List UInt8) : List UInt8 × Int :=
  if isDiskL d = true then
    if d.take 32 = List.replicate 32 0 then (List.replicate d.length 0, 0)
    else if heldOk d then (packL (heldS d) (liveL d) d.length, 0) else ([], 12)
  else ([], 6)
theorem halfN_le (c : Nat) (h : c ≤ 30) : halfN c ≤ 11 ∧ 2 ≤ halfN c ∧ 40 + 10 * c ≤ halfN c * 32 := by unfold halfN; omega
theorem sideOf_length (d : List UInt8) (h : headOk d) : (sideOf d).length = halfN (d.getD 4 0).toNat * 32 := by
  obtain ⟨_, h2, h3, _, h5⟩ := h; rw [sideOf, List.length_take, List.length_drop, fromL]
  have : (d.getD 5 0).toNat = 0 ∨ (d.getD 5 0).toNat = 1 := by omega
  rcases this with e | e <;> rw [e] <;> omega
theorem part_len (t : List UInt8) (a b : Nat) (h : a + b ≤ t.length) : ((t.drop a).take b).length = b := by
  rw [List.length_take, List.length_drop]; omega
theorem byte_le (c : UInt8) : c.toNat ≤ 255 := by have := c.toNat_lt; omega
theorem seen_ok (t : List UInt8) (c : Nat) (h1 : 40 + 10 * c ≤ t.length) (hc : c ≤ 30) (h7 : (t.getD 7 0).toNat ≤ c) : StOk (seenS t c) := by
  refine ⟨byte_le _, byte_le _, byte_le _, byte_le _, byte_le _, byte_le _, by show c ≤ 255; omega, part_len t 8 8 (by omega), part_len t 16 8 (by omega), part_len t 24 8 (by omega), ?_, ?_, ?_, ?_⟩
  · have := wn_lt 4 (t.drop 32); exact this
  · have := wn_lt 4 (t.drop 36); exact this
  · show ((List.range (t.getD 7 0).toNat).map (entAt t)).length ≤ 255
    rw [kept_len]; omega
  · intro e he
    obtain ⟨i, hi, rfl⟩ := List.mem_map.1 he; have hi' := List.mem_range.1 hi
    exact ⟨byte_le _, byte_le _, part_len t _ 8 (by omega)⟩
end Go.Proofs.Ytabpkohcimiceab
