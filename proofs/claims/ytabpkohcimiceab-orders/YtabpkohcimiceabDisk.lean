import Derived.Test.YtabpkohcimiceabGrund
import Derived.Test.YtabpkohcimiceabSeal
import Derived.WalkKit
import Derived.WalkSpells
import Derived.WalkLawsBesides
import Derived.OwnWalk
import Derived.Deep.RegionHeld3
import Derived.Deep.AppendLies
import Derived.Deep.DrawnRows
import Derived.Deep.DeepCutAuto
namespace Go.Proofs.Ytabpkohcimiceab
open Go.RowKit
set_option linter.unusedVariables false

/-- A cell of record j, as the walk reckons it. -/
theorem RecsAt.cells {w : World} {v : Value} {l : List RecM} (h : RecsAt w v l) {j : Nat} (hj : j < l.length) : ∃ g cap, v = .slice (some ⟨g, 0, none⟩) l.length cap ∧ l.length ≤ cap ∧ w.cell? ⟨g, j * 3, none⟩ = some (.bool (l.getD j default).stop) ∧ w.cell? ⟨g, j * 3 + 1, none⟩ = some (.int .i64 ((l.getD j default).to : Int)) ∧ w.cell? ⟨g, j * 3 + 2, none⟩ = some (.string (str (l.getD j default).data)) := by
  have e : l.getD j default = l[j] := by rw [List.getD_eq_getElem?_getD, List.getElem?_eq_getElem hj]; rfl
  rcases h with ⟨_, rfl⟩ | ⟨g, cap, h1, h2, _, h4⟩
  · simp at hj
  · rw [e]; exact ⟨g, cap, h1, h2, h4 j hj⟩

theorem byte_49 (c : UInt8) : ((c.toNat : Int) == 49) = (c == 49) := by
  rw [Bool.eq_iff_iff, beq_iff_eq, beq_iff_eq]
  constructor
  · intro h; apply UInt8.toNat_inj.1; show c.toNat = 49; omega
  · rintro rfl; rfl

theorem secL_ext (d : ByteArray) (s : Nat) : (d.extract (s * 32) (s * 32 + 32)).data.toList = secL d.data.toList s := by
  simp [ByteArray.data_extract, secL]
theorem secL_size (d : ByteArray) (s : Nat) (h : s * 32 + 32 ≤ d.size) : (secL d.data.toList s).length = 32 := by
  rw [secL, List.length_take, List.length_drop, len_list]; omega

/-- Each piece of data has 32 bytes, or none. -/
def dataOk (l : List RecM) : Prop := ∀ r ∈ l, r.data.length ≤ 32
theorem dataF_len (d : List UInt8) (l : List RecM) (n : Nat) (keep : List UInt8) (s : Nat) (hl : dataOk l) (h : (secL d s).length ≤ 32) : ∀ i, (dataF d l n keep s i).length ≤ 32
  | 0 => h
  | i + 1 => by
    rw [dataF]
    split
    · rcases Nat.lt_or_ge i l.length with hi | hi
      · rw [List.getD_eq_getElem?_getD, List.getElem?_eq_getElem hi]; exact hl _ (List.getElem_mem hi)
      · rw [List.getD_eq_getElem?_getD, List.getElem?_eq_none hi]; exact Nat.zero_le _
    · exact dataF_len d l n keep s hl h i
theorem leftF_len (d : List UInt8) (l : List RecM) (n : Nat) (keep : List UInt8) (hl : dataOk l) : ∀ s, (leftF d l n keep s).length ≤ 32 * s
  | 0 => Nat.le_refl _
  | s + 1 => by
    rw [leftF, List.length_append]
    have h1 := leftF_len d l n keep hl s
    have h2 := dataF_len d l n keep s hl (by rw [secL, List.length_take]; exact Nat.min_le_left _ _) n
    omega

end Go.Proofs.Ytabpkohcimiceab

namespace Go.Proofs.Ytabpkohcimiceab
open Go.RowKit
set_option linter.unusedVariables false

theorem recsF_stop (n k : Nat) (m : ByteArray) (h0 : 0 < m.size) (h : m[0] = 255) : recsF n (k + 1) m.data.toList = (recsF n k (m.data.toList.drop 1)).map (⟨true, 255, []⟩ :: ·) := by
  have hs := self_at m.data.toList 0 (by rw [len_list]; exact h0)
  have e : m.data.toList.getD 0 0 = m[0] := by have := getD_drop m 0 0 (by omega); simpa using this
  rw [e] at hs
  simp only [List.take_zero, List.nil_append, Nat.zero_add] at hs
  conv => lhs; rw [hs]
  rw [recsF, if_pos h]
theorem recsF_bad (n k : Nat) (m : ByteArray) (h0 : 0 < m.size) (h : m[0] ≠ 255) (hb : n ≤ m[0].toNat ∨ m.size < 33) : recsF n k m.data.toList = none := by
  have hs := self_at m.data.toList 0 (by rw [len_list]; exact h0)
  have e : m.data.toList.getD 0 0 = m[0] := by have := getD_drop m 0 0 (by omega); simpa using this
  rw [e] at hs
  simp only [List.take_zero, List.nil_append, Nat.zero_add] at hs
  rw [hs]
  cases k with
  | zero => rw [recsF]
  | succ k => rw [recsF, if_neg h, if_pos]; rw [List.length_drop, len_list]; omega
theorem recsF_write (n k : Nat) (m : ByteArray) (h0 : 0 < m.size) (h : m[0] ≠ 255) (hb1 : m[0].toNat < n) (hb2 : 33 ≤ m.size) : recsF n (k + 1) m.data.toList = (recsF n k (m.data.toList.drop 33)).map (⟨false, m[0].toNat, (m.data.toList.drop 1).take 32⟩ :: ·) := by
  have hs := self_at m.data.toList 0 (by rw [len_list]; exact h0)
  have e : m.data.toList.getD 0 0 = m[0] := by have := getD_drop m 0 0 (by omega); simpa using this
  rw [e] at hs
  simp only [List.take_zero, List.nil_append, Nat.zero_add] at hs
  conv => lhs; rw [hs]
  rw [recsF, if_neg h, if_neg (by rw [List.length_drop, len_list]; omega), List.drop_drop]
theorem recsF_over (n : Nat) (m : ByteArray) (h0 : 0 < m.size) : recsF n 0 m.data.toList = none := by
  have hs := self_at m.data.toList 0 (by rw [len_list]; exact h0)
  rw [hs]; rfl

theorem ext_1_33 (m : ByteArray) : (m.extract 1 33).data.toList = (m.data.toList.drop 1).take 32 := by simp [ByteArray.data_extract]
theorem heap_new_set (wc : World) (a : Addr) (v : Value) (o : Obj) : ((wc.setCell a v).alloc o).heap[wc.heap.size]? = some o := by
  have h := heap_alloc_new (wc.setCell a v) o
  rwa [World.size_setCell] at h
theorem grown_below {w X w2 : World} {v : Value} {n : Nat} {xs : List Value} {e : TypeId} {size : Nat} (hb : Below w.heap.size w X) (hown : X.ownsRow w.heap.size e size v n xs) (hg : X.grownBy w2 v.ownBlock) : Below w.heap.size w w2 :=
  hb.grown hg hb.size (fun k hk => (hown.lt k hk).1)
theorem recs_push (done : List RecM) (r : RecM) : recsCells (done ++ [r]) = recsCells done ++ recCells r := by
  rw [recsCells_append]; simp [recsCells]
theorem map_push (r : RecM) (done : List RecM) (o : Option (List RecM)) : ((o.map (r :: ·)).map (done ++ ·)) = o.map ((done ++ [r]) ++ ·) := by
  cases o <;> simp

/-- The variable r of a round: a new block of three cells. -/
structure RecVar (wr wc : World) (st : Bool) (goes : Int) : Prop where
  below : Below wr.heap.size wr wc
  size : wr.heap.size < wc.heap.size
  c0 : wc.cell? ⟨wr.heap.size, 0, none⟩ = some (.bool st)
  c1 : wc.cell? ⟨wr.heap.size, 1, none⟩ = some (.int .i64 goes)
  c2 : wc.cell? ⟨wr.heap.size, 2, none⟩ = some (.string ⟨#[]⟩)
  f2 : wc.frozen? ⟨wr.heap.size, 2, none⟩ = false

end Go.Proofs.Ytabpkohcimiceab

namespace Go.Proofs.Ytabpkohcimiceab
open Go.RowKit
set_option linter.unusedVariables false

/-! ### What Crash and Apply answer: the text, the error -/
def crashR (d p : List UInt8) (n : Int) (k : List UInt8) : List UInt8 × Int :=
  if isDiskL d = true then
    match recsL p (d.length / 32) with
    | none => ([], 7)
    | some l => if n < 0 ∨ (l.length : Int) < n then ([], 3) else if 100 < k.length then ([], 2) else (leftL d l n.toNat k, 0)
  else ([], 6)
def applyR (d p : List UInt8) : List UInt8 × Int :=
  if isDiskL d = true then
    match recsL p (d.length / 32) with
    | none => ([], 7)
    | some l => (leftL d (l ++ [⟨true, 0, []⟩]) (l.length + 1) [], 0)
  else ([], 6)

theorem dataOk_of {n : Nat} {l : List RecM} (h : ∀ r ∈ l, r.ok n) : dataOk l := by
  intro r hr
  rcases h r hr with ⟨_, _, h⟩ | ⟨_, _, _, h⟩
  · rw [h]; exact Nat.zero_le _
  · rw [h]; exact Nat.le_refl _

theorem RecsAt.form {w : World} {v : Value} {l : List RecM} (h : RecsAt w v l) : ∃ a cap, v = .slice a l.length cap := by
  rcases h with ⟨h1, h2⟩ | ⟨g, cap, h1, _⟩
  · exact ⟨none, 0, by rw [h1, h2]; rfl⟩
  · exact ⟨_, cap, h1⟩

end Go.Proofs.Ytabpkohcimiceab
