import Derived.Test.YtabpkohcimiceaaSealM
namespace Go.Proofs.Ytabpkohcimiceaa
open Go.RowKit

/-! ### Disks and plans, on lists of bytes -/
structure RecM where
  stop : Bool
  to : Nat
  data : List UInt8
deriving Inhabited

def recsF (n : Nat) : Nat → List UInt8 → Option (List RecM)
  | _, [] => some []
  | 0, _ :: _ => none
  | k + 1, b :: t =>
    if b = 255 then (recsF n k t).map (⟨true, 255, []⟩ :: ·)
    else if n ≤ b.toNat ∨ t.length < 32 then none
    else (recsF n k (t.drop 32)).map (⟨false, b.toNat, t.take 32⟩ :: ·)
/-- The records of a plan for a disk of n sectors. -/
def recsL (plan : List UInt8) (n : Nat) : Option (List RecM) := recsF n 100 plan

def stoppedL (l : List RecM) (i n : Nat) : Bool := (List.range n).any fun j => decide (i < j) && (l.getD j default).stop
def looseL (l : List RecM) (i n : Nat) : Nat := ((List.range i).filter fun j => !(l.getD j default).stop && !stoppedL l j n).length
def writtenL (l : List RecM) (i n : Nat) (keep : List UInt8) : Bool := !(l.getD i default).stop && (stoppedL l i n || (decide (looseL l i n < keep.length) && keep.getD (looseL l i n) 0 == 49))
def secL (d : List UInt8) (s : Nat) : List UInt8 := (d.drop (s * 32)).take 32
def dataF (d : List UInt8) (l : List RecM) (n : Nat) (keep : List UInt8) (s : Nat) : Nat → List UInt8
  | 0 => secL d s
  | i + 1 => if (l.getD i default).to = s ∧ writtenL l i n keep = true then (l.getD i default).data else dataF d l n keep s i
def leftF (d : List UInt8) (l : List RecM) (n : Nat) (keep : List UInt8) : Nat → List UInt8
  | 0 => []
  | s + 1 => leftF d l n keep s ++ dataF d l n keep s n
def leftL (d : List UInt8) (l : List RecM) (n : Nat) (keep : List UInt8) : List UInt8 := leftF d l n keep (d.length / 32)

def isDiskL (d : List UInt8) : Bool := decide (d.length % 32 = 0 ∧ 32 ≤ d.length ∧ d.length ≤ 1280)

theorem stoppedL_succ (l : List RecM) (i n : Nat) : stoppedL l i (n + 1) = (stoppedL l i n || (decide (i < n) && (l.getD n default).stop)) := by
  simp [stoppedL, List.range_succ]
theorem stoppedL_le (l : List RecM) (i n : Nat) (h : n ≤ i + 1) : stoppedL l i n = false := by
  rw [stoppedL, List.any_eq_false]
  intro j hj
  have := List.mem_range.1 hj
  simp; omega
theorem looseL_succ (l : List RecM) (i n : Nat) : looseL l (i + 1) n = looseL l i n + if (!(l.getD i default).stop && !stoppedL l i n) = true then 1 else 0 := by
  simp only [looseL, List.range_succ, List.filter_append, List.length_append]
  congr 1
  rw [List.filter_cons, List.filter_nil]
  split <;> rfl
theorem looseL_le (l : List RecM) (i n : Nat) : looseL l i n ≤ i := by
  have := List.length_filter_le (fun j => !(l.getD j default).stop && !stoppedL l j n) (List.range i)
  simpa [looseL] using this
/-- A barrier found: the answer is settled. -/
theorem stoppedL_hit (l : List RecM) (i j n : Nat) (h1 : i < j) (h2 : j < n) (h3 : (l.getD j default).stop = true) : stoppedL l i n = true := by
  rw [stoppedL, List.any_eq_true]
  exact ⟨j, List.mem_range.2 h2, by rw [h3]; simp [h1]⟩

theorem stoppedL_mono (l : List RecM) (i n j : Nat) (h : n ≤ j) (hf : stoppedL l i j = false) : stoppedL l i n = false := by
  rw [stoppedL, List.any_eq_false] at hf ⊢
  intro k hk
  exact hf k (List.mem_range.2 (Nat.lt_of_lt_of_le (List.mem_range.1 hk) h))

/-! ### What a plan's records are like -/
/-- A write goes to a sector that there is, and has 32 bytes. -/
def RecM.ok (n : Nat) (r : RecM) : Prop := (r.stop = true ∧ r.to = 255 ∧ r.data = []) ∨ (r.stop = false ∧ r.to < n ∧ r.to < 255 ∧ r.data.length = 32)
theorem recsF_ok (n : Nat) : ∀ (k : Nat) (p : List UInt8) (l : List RecM), recsF n k p = some l → l.length ≤ k ∧ ∀ r ∈ l, r.ok n
  | 0, [], l, h => by simp [recsF] at h; subst h; simp
  | k + 1, [], l, h => by simp [recsF] at h; subst h; simp
  | 0, b :: t, l, h => by simp [recsF] at h
  | k + 1, b :: t, l, h => by
    rw [recsF] at h
    by_cases h1 : b = 255
    · rw [if_pos h1] at h
      obtain ⟨l', h2, rfl⟩ := Option.map_eq_some_iff.1 h
      obtain ⟨h3, h4⟩ := recsF_ok n k t l' h2
      refine ⟨by simp; omega, ?_⟩
      intro r hr
      rcases List.mem_cons.1 hr with rfl | hr
      · exact .inl ⟨rfl, rfl, rfl⟩
      · exact h4 r hr
    · rw [if_neg h1] at h
      by_cases h2 : n ≤ b.toNat ∨ t.length < 32
      · rw [if_pos h2] at h; cases h
      · rw [if_neg h2] at h
        obtain ⟨l', h3, rfl⟩ := Option.map_eq_some_iff.1 h
        obtain ⟨h4, h5⟩ := recsF_ok n k _ l' h3
        refine ⟨by simp; omega, ?_⟩
        intro r hr
        rcases List.mem_cons.1 hr with rfl | hr
        · refine .inr ⟨rfl, Nat.lt_of_not_le fun e => h2 (.inl e), ?_, by show (t.take 32).length = 32; rw [List.length_take]; omega⟩
          have := b.toNat_lt
          have : b.toNat ≠ 255 := fun e => h1 (UInt8.toNat_inj.1 e)
          show b.toNat < 255
          omega
        · exact h5 r hr

/-! ### Records in memory -/
def recCells (r : RecM) : List Value := [.bool r.stop, .int .i64 (r.to : Int), .string (str r.data)]
def recsCells : List RecM → List Value
  | [] => []
  | r :: l => recCells r ++ recsCells l
theorem recsCells_append (a b : List RecM) : recsCells (a ++ b) = recsCells a ++ recsCells b := by
  induction a with
  | nil => rfl
  | cons r a ih => rw [List.cons_append, recsCells, recsCells, ih, List.append_assoc]
theorem recsCells_length (a : List RecM) : (recsCells a).length = a.length * 3 := by
  induction a with
  | nil => rfl
  | cons r a ih => rw [recsCells, List.length_append, ih]; simp [recCells]; omega
theorem recsCells_at : ∀ (a : List RecM) (j : Nat) (h : j < a.length), (recsCells a)[j * 3]? = some (.bool a[j].stop) ∧ (recsCells a)[j * 3 + 1]? = some (.int .i64 (a[j].to : Int)) ∧ (recsCells a)[j * 3 + 2]? = some (.string (str a[j].data))
  | r :: a, 0, _ => ⟨rfl, rfl, rfl⟩
  | r :: a, j + 1, h => by
    obtain ⟨h1, h2, h3⟩ := recsCells_at a j (by simpa using h)
    refine ⟨?_, ?_, ?_⟩
    · rw [show (j + 1) * 3 = j * 3 + 3 by omega]; exact h1
    · rw [show (j + 1) * 3 + 1 = (j * 3 + 1) + 3 by omega]; exact h2
    · rw [show (j + 1) * 3 + 2 = (j * 3 + 2) + 3 by omega]; exact h3

/-- The slice value v holds the records l. -/
def RecsAt (w : World) (v : Value) (l : List RecM) : Prop :=
  (v = .slice none 0 0 ∧ l = []) ∨ ∃ g cap, v = .slice (some ⟨g, 0, none⟩) l.length cap ∧ l.length ≤ cap ∧ g < w.heap.size ∧
    ∀ j (h : j < l.length), w.cell? ⟨g, j * 3, none⟩ = some (.bool l[j].stop) ∧ w.cell? ⟨g, j * 3 + 1, none⟩ = some (.int .i64 (l[j].to : Int)) ∧ w.cell? ⟨g, j * 3 + 2, none⟩ = some (.string (str l[j].data))
theorem RecsAt.next {w w' : World} {v : Value} {l : List RecM} (h : RecsAt w v l) (hb : Below w.heap.size w w') : RecsAt w' v l := by
  rcases h with h | ⟨g, cap, h1, h2, h3, h4⟩
  · exact .inl h
  · refine .inr ⟨g, cap, h1, h2, Nat.lt_of_lt_of_le h3 hb.size, fun j hj => ?_⟩
    obtain ⟨a, b, c⟩ := h4 j hj
    exact ⟨(hb.cell (p := ⟨g, j * 3, none⟩) h3).trans a, (hb.cell (p := ⟨g, j * 3 + 1, none⟩) h3).trans b, (hb.cell (p := ⟨g, j * 3 + 2, none⟩) h3).trans c⟩
theorem RecsAt.of_own {w : World} {base : Nat} {e : TypeId} {v : Value} {l : List RecM} (h : w.ownsRow base e 3 v l.length (recsCells l)) : RecsAt w v l := by
  rcases h.2 with ⟨rfl, h0⟩ | ⟨g, cap, cur, hv, hg, hgg, hn, _, _, _⟩
  · exact .inl ⟨rfl, List.eq_nil_of_length_eq_zero h0⟩
  · refine .inr ⟨g, cap, hv, hn, (h.lt g (by rw [hv]; rfl)).2, fun j hj => ?_⟩
    obtain ⟨a, b, c⟩ := recsCells_at l j hj
    subst hv
    refine ⟨?_, ?_, ?_⟩
    · rw [h.cellAt (j * 3) (by omega)]; exact a
    · rw [h.cellAt (j * 3 + 1) (by omega)]; exact b
    · rw [h.cellAt (j * 3 + 2) (by omega)]; exact c
end Go.Proofs.Ytabpkohcimiceaa
