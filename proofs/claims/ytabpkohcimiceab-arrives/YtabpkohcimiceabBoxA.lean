import Derived.Test.YtabpkohcimiceabPow
import Derived.Test.YtabpkohcimiceabDisk
namespace Go.Proofs.Ytabpkohcimiceab
set_option maxRecDepth 100000
set_option maxHeartbeats 1000000
open Go.RowKit
structure EntM where
  step : Nat
  count : Nat
  key : List UInt8
deriving Inhabited, DecidableEq
structure StM where
  role : Nat
  step : Nat
  sent : Nat
  got : Nat
  prev : Nat
  skip : Nat
  cap : Nat
  root : List UInt8
  out : List UInt8
  inn : List UInt8
  secret : Nat
  peer : Nat
  kept : List EntM
deriving Inhabited, DecidableEq
def halfN (cap : Nat) : Nat := (71 + 10 * cap) / 32
def fillL (l : List UInt8) (n : Nat) : List UInt8 := l ++ List.replicate (n - l.length) 0
def topL (cap live : Nat) : List UInt8 := fillL [80, 65, 87, 76, UInt8.ofNat cap, UInt8.ofNat live] 32
def fourN (n : Nat) : List UInt8 := four (BitVec.ofNat 32 n)
def entL (e : EntM) : List UInt8 := UInt8.ofNat e.step :: UInt8.ofNat e.count :: e.key
def entsL : List EntM → List UInt8
  | [] => []
  | e :: l => entL e ++ entsL l
def headL (s : StM) : List UInt8 := [UInt8.ofNat s.role, UInt8.ofNat s.step, UInt8.ofNat s.sent, UInt8.ofNat s.got, UInt8.ofNat s.prev, UInt8.ofNat s.skip, UInt8.ofNat s.cap, UInt8.ofNat s.kept.length]
def bodyL (s : StM) : List UInt8 := headL s ++ s.root ++ s.out ++ s.inn ++ fourN s.secret ++ fourN s.peer
def sideL (s : StM) : List UInt8 := fillL (bodyL s ++ entsL s.kept) (halfN s.cap * 32)
def packL (s : StM) (live size : Nat) : List UInt8 := fillL ((if live = 1 then fillL (topL s.cap live) ((1 + halfN s.cap) * 32) else topL s.cap live) ++ sideL s) size
def ofL (l : List EntM) (step : Nat) : Nat := (l.filter fun e => e.step == step).length
def beforeL (a b : EntM) : Bool := decide (a.step < b.step) || (a.step == b.step && decide (a.count < b.count))
def keyOk (s : StM) (i : Nat) : Bool :=
  let k := s.kept.getD i default
  !(decide (s.skip < ofL s.kept k.step) || decide (k.step < 1) || decide (s.step ≤ k.step) || (k.step + s.step) % 2 == 0 || decide (49 < k.count)) &&
  !(k.step + 1 == s.step && decide (s.got ≤ k.count)) && (decide (i = 0) || beforeL (s.kept.getD (i - 1) default) k)
def keysF (s : StM) : Nat → Bool
  | 0 => true
  | i + 1 => keysF s i && keyOk s i
def keysL (s : StM) : Bool := decide (s.kept.length ≤ s.cap) && keysF s s.kept.length
def noneL : List UInt8 := List.replicate 8 0
def lawA (s : StM) : Bool := decide (s.role ≤ 1 ∧ s.step ≤ 30 ∧ (s.step + s.role) % 2 ≠ 0 ∧ s.skip ≤ 12 ∧ s.cap ≤ 30)
def lawB (s : StM) : Bool := decide (s.sent ≤ 50 ∧ s.got ≤ 50 ∧ s.prev ≤ 50)
def lawC (s : StM) : Bool := decide (Sec s.secret ∧ (0 < s.step → Pub s.peer))
def lawD (s : StM) : Bool := decide (s.step = 0 → s.sent = 0 ∧ s.peer = 0 ∧ s.out = noneL)
def lawE (s : StM) : Bool := decide (s.step ≤ 1 → s.got = 0 ∧ s.inn = noneL)
def lawF (s : StM) : Bool := decide (s.step ≤ 2 → s.prev = 0)
def lawfulL (s : StM) : Bool := lawA s && lawB s && lawC s && lawD s && lawE s && lawF s && keysL s
theorem fillL_length (l : List UInt8) (n : Nat) : (fillL l n).length = max l.length n := by rw [fillL, List.length_append, List.length_replicate]; omega
theorem topL_length (cap live : Nat) : (topL cap live).length = 32 := by rw [topL, fillL_length]; rfl
theorem fourN_length (n : Nat) : (fourN n).length = 4 := rfl
theorem ofL_nil (step : Nat) : ofL [] step = 0 := rfl
theorem ofL_le (l : List EntM) (step : Nat) : ofL l step ≤ l.length := List.length_filter_le _ _
theorem entsL_append (a b : List EntM) : entsL (a ++ b) = entsL a ++ entsL b := by
  induction a with
  | nil => rfl
  | cons e a ih => rw [List.cons_append, entsL, entsL, ih, List.append_assoc]
theorem take_succ_getD {α : Type} (l : List α) (d : α) (i : Nat) (h : i < l.length) : l.take (i + 1) = l.take i ++ [l.getD i d] := by
  rw [List.take_succ_eq_append_getElem h, List.getD_eq_getElem?_getD, List.getElem?_eq_getElem h]; rfl
theorem entsL_take (l : List EntM) (i : Nat) (h : i < l.length) : entsL (l.take (i + 1)) = entsL (l.take i) ++ entL (l.getD i default) := by
  rw [take_succ_getD l default i h, entsL_append]; simp [entsL]
theorem ofL_take (l : List EntM) (step i : Nat) (h : i < l.length) : ofL (l.take (i + 1)) step = ofL (l.take i) step + if (l.getD i default).step = step then 1 else 0 := by
  rw [take_succ_getD l default i h, ofL, ofL, List.filter_append, List.length_append, List.filter_cons, List.filter_nil]
  congr 1
  by_cases h : (l.getD i default).step = step
  · rw [if_pos (by simpa using h), if_pos h]; rfl
  · rw [if_neg (by simpa using h), if_neg h]; rfl
def entCells (e : EntM) : List Value := [.int .i64 e.step, .int .i64 e.count, .string (str e.key)]
def entsCells : List EntM → List Value
  | [] => []
  | e :: l => entCells e ++ entsCells l
theorem entsCells_append (a b : List EntM) : entsCells (a ++ b) = entsCells a ++ entsCells b := by
  induction a with
  | nil => rfl
  | cons r a ih => rw [List.cons_append, entsCells, entsCells, ih, List.append_assoc]
theorem entsCells_at : ∀ (a : List EntM) (j : Nat) (h : j < a.length), (entsCells a)[j * 3]? = some (.int .i64 (a[j].step : Int)) ∧ (entsCells a)[j * 3 + 1]? = some (.int .i64 (a[j].count : Int)) ∧ (entsCells a)[j * 3 + 2]? = some (.string (str a[j].key))
  | r :: a, 0, _ => ⟨rfl, rfl, rfl⟩
  | r :: a, j + 1, h => by
    obtain ⟨h1, h2, h3⟩ := entsCells_at a j (by simpa using h)
    refine ⟨?_, ?_, ?_⟩
    · rw [show (j + 1) * 3 = j * 3 + 3 by omega]; exact h1
    · rw [show (j + 1) * 3 + 1 = (j * 3 + 1) + 3 by omega]; exact h2
    · rw [show (j + 1) * 3 + 2 = (j * 3 + 2) + 3 by omega]; exact h3
def EntsAt (w : World) (v : Value) (l : List EntM) : Prop :=
  (v = .slice none 0 0 ∧ l = []) ∨ ∃ g cap, v = .slice (some ⟨g, 0, none⟩) l.length cap ∧ l.length ≤ cap ∧ g < w.heap.size ∧
    ∀ j (h : j < l.length), w.cell? ⟨g, j * 3, none⟩ = some (.int .i64 (l[j].step : Int)) ∧ w.cell? ⟨g, j * 3 + 1, none⟩ = some (.int .i64 (l[j].count : Int)) ∧ w.cell? ⟨g, j * 3 + 2, none⟩ = some (.string (str l[j].key))
theorem EntsAt.next {w w' : World} {v : Value} {l : List EntM} (h : EntsAt w v l) (hb : Below w.heap.size w w') : EntsAt w' v l := by
  rcases h with h | ⟨g, cap, h1, h2, h3, h4⟩
  · exact .inl h
  · refine .inr ⟨g, cap, h1, h2, Nat.lt_of_lt_of_le h3 hb.size, fun j hj => ?_⟩
    obtain ⟨a, b, c⟩ := h4 j hj; exact ⟨(hb.cell (p := ⟨g, j * 3, none⟩) h3).trans a, (hb.cell (p := ⟨g, j * 3 + 1, none⟩) h3).trans b, (hb.cell (p := ⟨g, j * 3 + 2, none⟩) h3).trans c⟩
theorem EntsAt.form {w : World} {v : Value} {l : List EntM} (h : EntsAt w v l) : ∃ a cap, v = .slice a l.length cap := by
  rcases h with ⟨h1, h2⟩ | ⟨g, cap, h1, _⟩
  · exact ⟨none, 0, by rw [h1, h2]; rfl⟩
  · exact ⟨_, cap, h1⟩
theorem EntsAt.cells {w : World} {v : Value} {l : List EntM} (h : EntsAt w v l) {j : Nat} (hj : j < l.length) : ∃ g cap, v = .slice (some ⟨g, 0, none⟩) l.length cap ∧ l.length ≤ cap ∧ g < w.heap.size ∧ w.cell? ⟨g, j * 3, none⟩ = some (.int .i64 ((l.getD j default).step : Int)) ∧ w.cell? ⟨g, j * 3 + 1, none⟩ = some (.int .i64 ((l.getD j default).count : Int)) ∧ w.cell? ⟨g, j * 3 + 2, none⟩ = some (.string (str (l.getD j default).key)) := by
  have e : l.getD j default = l[j] := by rw [List.getD_eq_getElem?_getD, List.getElem?_eq_getElem hj]; rfl
  rcases h with ⟨_, rfl⟩ | ⟨g, cap, h1, h2, h3, h4⟩
  · simp at hj
  · rw [e]; exact ⟨g, cap, h1, h2, h3, h4 j hj⟩
theorem EntsAt.of_own {w : World} {base : Nat} {e : TypeId} {v : Value} {l : List EntM} (h : w.ownsRow base e 3 v l.length (entsCells l)) : EntsAt w v l := by
  rcases h.2 with ⟨rfl, h0⟩ | ⟨g, cap, cur, hv, hg, hgg, hn, _, _, _⟩
  · exact .inl ⟨rfl, List.eq_nil_of_length_eq_zero h0⟩
  · refine .inr ⟨g, cap, hv, hn, (h.lt g (by rw [hv]; rfl)).2, fun j hj => ?_⟩
    obtain ⟨a, b, c⟩ := entsCells_at l j hj; subst hv
    refine ⟨?_, ?_, ?_⟩
    · rw [h.cellAt (j * 3) (by omega)]; exact a
    · rw [h.cellAt (j * 3 + 1) (by omega)]; exact b
    · rw [h.cellAt (j * 3 + 2) (by omega)]; exact c
def stCells (s : StM) (v : Value) : Array Value :=
  #[.int .i64 s.role, .int .i64 s.step, .int .i64 s.sent, .int .i64 s.got, .int .i64 s.prev, .int .i64 s.skip, .int .i64 s.cap, .string (str s.root), .string (str s.out), .string (str s.inn), .int .i64 s.secret, .int .i64 s.peer, v]
set_option linter.unusedVariables false
attribute [local go_sem ↓] Go.wp_at_zero Go.wp_at_succ
structure StAt (w : World) (g : Nat) (s : StM) (v : Value) : Prop where
  lt : g < w.heap.size
  c0 : w.cell? ⟨g, 0, none⟩ = some (.int .i64 s.role)
  c1 : w.cell? ⟨g, 1, none⟩ = some (.int .i64 s.step)
  c2 : w.cell? ⟨g, 2, none⟩ = some (.int .i64 s.sent)
  c3 : w.cell? ⟨g, 3, none⟩ = some (.int .i64 s.got)
  c4 : w.cell? ⟨g, 4, none⟩ = some (.int .i64 s.prev)
  c5 : w.cell? ⟨g, 5, none⟩ = some (.int .i64 s.skip)
  c6 : w.cell? ⟨g, 6, none⟩ = some (.int .i64 s.cap)
  c7 : w.cell? ⟨g, 7, none⟩ = some (.string (str s.root))
  c8 : w.cell? ⟨g, 8, none⟩ = some (.string (str s.out))
  c9 : w.cell? ⟨g, 9, none⟩ = some (.string (str s.inn))
  c10 : w.cell? ⟨g, 10, none⟩ = some (.int .i64 s.secret)
  c11 : w.cell? ⟨g, 11, none⟩ = some (.int .i64 s.peer)
  c12 : w.cell? ⟨g, 12, none⟩ = some v
theorem StAt.next {w w' : World} {g : Nat} {s : StM} {v : Value} (h : StAt w g s v) (hb : Below w.heap.size w w') : StAt w' g s v := by
  have f : ∀ i x, w.cell? ⟨g, i, none⟩ = some x → w'.cell? ⟨g, i, none⟩ = some x := fun i x hx => (hb.cell (p := ⟨g, i, none⟩) h.lt).trans hx
  exact ⟨Nat.lt_of_lt_of_le h.lt hb.size, f _ _ h.c0, f _ _ h.c1, f _ _ h.c2, f _ _ h.c3, f _ _ h.c4, f _ _ h.c5, f _ _ h.c6, f _ _ h.c7, f _ _ h.c8, f _ _ h.c9, f _ _ h.c10, f _ _ h.c11, f _ _ h.c12⟩
structure StOk (s : StM) : Prop where
  role : s.role ≤ 255
  step : s.step ≤ 255
  sent : s.sent ≤ 255
  got : s.got ≤ 255
  prev : s.prev ≤ 255
  skip : s.skip ≤ 255
  cap : s.cap ≤ 255
  root : s.root.length = 8
  out : s.out.length = 8
  inn : s.inn.length = 8
  secret : s.secret < 4294967296
  peer : s.peer < 4294967296
  kept : s.kept.length ≤ 255
  keys : ∀ e ∈ s.kept, e.step ≤ 255 ∧ e.count ≤ 255 ∧ e.key.length = 8
attribute [local go_sem] str_one_size
end Go.Proofs.Ytabpkohcimiceab
