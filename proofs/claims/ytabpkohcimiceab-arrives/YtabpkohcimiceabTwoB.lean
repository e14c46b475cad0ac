import Derived.Test.YtabpkohcimiceabBookY
import Derived.Test.YtabpkohcimiceabPartyX
import Derived.Handy
import Derived.ChangeOld
import Derived.Deep.Slices
namespace Go.Proofs.Ytabpkohcimiceab
set_option maxRecDepth 100000
set_option maxHeartbeats 1000000
open Go.RowKit
set_option linter.unusedVariables false
def pcells (d : List UInt8) (s : StM) (pe : Int) (vk vl : Value) : Array Value := #[.string (str d), .int .i64 s.role, .int .i64 s.step, .int .i64 s.sent, .int .i64 s.got, .int .i64 s.prev, .int .i64 s.skip, .int .i64 s.cap, .int .i64 s.secret, .int .i64 pe, vk, vl]
structure PAt (w : World) (P base : Nat) (d : List UInt8) (k : Nat) (s : StM) (pe : Int) (vk vl : Value) (L : List LtM) : Prop where
  blk : w.heap[P]? = some (.cells (pcells d s pe vk vl) 41)
  ids : IdsAt w vk s.kept
  row : w.ownsRow base 63 7 vl L.length (ltsC L)
  good : GoodD d k
  held : heldS d = s
def Apart (P Q : Nat) (l : List EntM) (vk vl vl' : Value) : Prop := l ≠ [] → ∀ k, vk.ownBlock = some k → k ≠ P ∧ k ≠ Q ∧ vl.ownBlock ≠ some k ∧ vl'.ownBlock ≠ some k
def PeerQ (a : Nat → Nat) (s : StM) (pe : Int) : Prop := pe = if s.step = 0 then 0 else ((a (s.step - 1) : Nat) : Int)
structure Two (r : List UInt8) (w : World) (P Q base : Nat) (a : Nat → Nat) (s t : StM) (pes pet : Int) (vks vkt vls vlt : Value) (Ls Lt : List LtM) (ds dt : List UInt8) (ks kt : Nat) : Prop where
  p : PAt w P base ds ks s pes vks vls Ls
  q : PAt w Q base dt kt t pet vkt vlt Lt
  keep : KeepI r a s t Ls Lt
  ps : PeerQ a s pes
  pt : PeerQ a t pet
  a1 : Apart P Q s.kept vks vls vlt
  a2 : Apart P Q t.kept vkt vls vlt
  rows : ∀ k, vls.ownBlock = some k → vlt.ownBlock ≠ some k
  hP : P < base
  hQ : Q < base
  hPQ : P ≠ Q
  hb : base ≤ w.heap.size
theorem Apart.symm {P Q : Nat} {l : List EntM} {vk vl vl' : Value} (h : Apart P Q l vk vl vl') : Apart Q P l vk vl' vl := fun hn k hk => ⟨(h hn k hk).2.1, (h hn k hk).1, (h hn k hk).2.2.2, (h hn k hk).2.2.1⟩
theorem Two.symm {r : List UInt8} {w : World} {P Q base : Nat} {a : Nat → Nat} {s t : StM} {pes pet : Int} {vks vkt vls vlt : Value} {Ls Lt : List LtM} {ds dt : List UInt8} {ks kt : Nat} (h : Two r w P Q base a s t pes pet vks vkt vls vlt Ls Lt ds dt ks kt) : Two r w Q P base a t s pet pes vkt vks vlt vls Lt Ls dt ds kt ks :=
  ⟨h.q, h.p, h.keep.symm, h.pt, h.ps, h.a2.symm, h.a1.symm, fun k hk q => h.rows k q hk, h.hQ, h.hP, fun e => h.hPQ e.symm, h.hb⟩
def TwoX (r : List UInt8) (w : World) (P Q base : Nat) : Prop := ∃ a s t pes pet vks vkt vls vlt Ls Lt ds dt ks kt, Two r w P Q base a s t pes pet vks vkt vls vlt Ls Lt ds dt ks kt
theorem TwoX.symm {r : List UInt8} {w : World} {P Q base : Nat} (h : TwoX r w P Q base) : TwoX r w Q P base := by
  obtain ⟨a, s, t, pes, pet, vks, vkt, vls, vlt, Ls, Lt, ds, dt, ks, kt, h⟩ := h; exact ⟨a, t, s, pet, pes, vkt, vks, vlt, vls, Lt, Ls, dt, ds, kt, ks, h.symm⟩
theorem blk_lt {w : World} {b : Nat} {o : Obj} (h : w.heap[b]? = some o) : b < w.heap.size := by
  rcases Nat.lt_or_ge b w.heap.size with q | q
  · exact q
  · rw [Array.getElem?_eq_none (by exact q)] at h; cases h
theorem PAt.only {S : Nat → Prop} {w w' : World} {P base : Nat} {d : List UInt8} {k : Nat} {s : StM} {pe : Int} {vk vl : Value} {L : List LtM} (h : PAt w P base d k s pe vk vl L) (ho : Only S w w') (h1 : ¬ S P) (h2 : s.kept ≠ [] → ∀ b, vk.ownBlock = some b → ¬ S b) (h3 : ∀ b, vl.ownBlock = some b → ¬ S b) : PAt w' P base d k s pe vk vl L :=
  ⟨(ho.block P (blk_lt h.blk) h1).trans h.blk, h.ids.only ho h2, ho.own h.row h3, h.good, h.held⟩
theorem PAt.next {w w' : World} {P base : Nat} {d : List UInt8} {k : Nat} {s : StM} {pe : Int} {vk vl : Value} {L : List LtM} (h : PAt w P base d k s pe vk vl L) (hb : Below w.heap.size w w') : PAt w' P base d k s pe vk vl L :=
  h.only (S := fun _ => False) (Only.of_below hb) (fun q => q) (fun _ _ _ q => q) (fun _ _ q => q)
theorem Two.next {r : List UInt8} {w w' : World} {P Q base : Nat} {a : Nat → Nat} {s t : StM} {pes pet : Int} {vks vkt vls vlt : Value} {Ls Lt : List LtM} {ds dt : List UInt8} {ks kt : Nat} (h : Two r w P Q base a s t pes pet vks vkt vls vlt Ls Lt ds dt ks kt) (hb : Below w.heap.size w w') : Two r w' P Q base a s t pes pet vks vkt vls vlt Ls Lt ds dt ks kt :=
  ⟨h.p.next hb, h.q.next hb, h.keep, h.ps, h.pt, h.a1, h.a2, h.rows, h.hP, h.hQ, h.hPQ, Nat.le_trans h.hb hb.size⟩
theorem TwoX.next {r : List UInt8} {w w' : World} {P Q base : Nat} (h : TwoX r w P Q base) (hb : Below w.heap.size w w') : TwoX r w' P Q base := by
  obtain ⟨a, s, t, pes, pet, vks, vkt, vls, vlt, Ls, Lt, ds, dt, ks, kt, h⟩ := h; exact ⟨a, s, t, pes, pet, vks, vkt, vls, vlt, Ls, Lt, ds, dt, ks, kt, h.next hb⟩
set_option linter.unusedSimpArgs false
structure StepM where
  kd : Int
  who : Int
  pn : Int
  dr : Int
  tx : ByteArray
  cut : Bool
  f0 : Int
  f1 : Int
  k1 : ByteArray
  k2 : ByteArray
def stepZ : StepM := ⟨0, 0, 0, 0, ⟨#[]⟩, false, 0, 0, ⟨#[]⟩, ⟨#[]⟩⟩
def stepC (o : StepM) : List Value := [.int .i64 o.kd, .int .i64 o.who, .int .i64 o.pn, .int .i64 o.dr, .string o.tx, .bool o.cut, .int .i64 o.f0, .int .i64 o.f1, .string o.k1, .string o.k2]
structure StepOk (o : StepM) : Prop where
  pn : (-9223372036854775808 ≤ o.pn ∧ o.pn ≤ 9223372036854775807)
  dr : (-9223372036854775808 ≤ o.dr ∧ o.dr ≤ 9223372036854775807)
  f0 : (-9223372036854775808 ≤ o.f0 ∧ o.f0 ≤ 9223372036854775807)
  f1 : (-9223372036854775808 ≤ o.f1 ∧ o.f1 ≤ 9223372036854775807)
  tx : o.tx.size ≤ maxLen
  k1 : o.k1.size ≤ maxLen
  k2 : o.k2.size ≤ maxLen
def StepsAt (w : World) (v : Value) (l : List StepM) : Prop := (l = [] ∧ ∃ a c, v = .slice a 0 c) ∨ ∃ b off cap, v = .slice (some ⟨b, off, none⟩) l.length cap ∧ b < w.heap.size ∧ ∀ i, i < l.length → ∀ j, j < 10 → w.cell? ⟨b, off + i * 10 + j, none⟩ = (stepC (l.getD i stepZ))[j]?
theorem StepsAt.form {w : World} {v : Value} {l : List StepM} (h : StepsAt w v l) : ∃ a c, v = .slice a l.length c := by
  rcases h with ⟨h1, a, c, h2⟩ | ⟨b, off, cap, h1, _⟩
  · exact ⟨a, c, by rw [h1, h2]; rfl⟩
  · exact ⟨_, _, h1⟩
theorem StepsAt.only {S : Nat → Prop} {w w' : World} {v : Value} {l : List StepM} (h : StepsAt w v l) (ho : Only S w w') (hs : l ≠ [] → ∀ k, v.ownBlock = some k → ¬ S k) : StepsAt w' v l := by
  rcases h with h | ⟨b, off, cap, h1, h2, h3⟩
  · exact .inl h
  · by_cases hne : l = []
    · exact .inl ⟨hne, _, _, by rw [h1, hne]; rfl⟩
    have hb := ho.block b h2 (hs hne b (by rw [h1]; rfl))
    refine .inr ⟨b, off, cap, h1, Nat.lt_of_lt_of_le h2 ho.size, fun i hi j hj => ?_⟩
    have := h3 i hi j hj
    unfold World.cell? at this ⊢
    rw [hb]; exact this
theorem StepsAt.next {w w' : World} {v : Value} {l : List StepM} (h : StepsAt w v l) (hb : Below w.heap.size w w') : StepsAt w' v l := h.only (S := fun _ => False) (Only.of_below hb) (fun _ _ _ q => q)
theorem StepsAt.lt {w : World} {v : Value} {l : List StepM} (h : StepsAt w v l) (hn : l ≠ []) {k : Nat} (hk : v.ownBlock = some k) : k < w.heap.size := by
  rcases h with ⟨q, _⟩ | ⟨b, off, cap, h1, h2, _⟩
  · exact absurd q hn
  · rw [h1] at hk
    have : b = k := Option.some.inj hk
    omega
open Go.ChangeShapes Go.WideShapes Go.ChangeAt Go.RowKit Go.Deep
theorem Try.cellsStep : Try.prog.cellsOf 34 = 10 := by kernel_rfl
theorem Try.cellsIntS : Try.prog.cellsOf 3 = 1 := by kernel_rfl
theorem Try.cellsStrS : Try.prog.cellsOf 9 = 1 := by kernel_rfl
theorem Try.cellsBoolS : Try.prog.cellsOf 4 = 1 := by kernel_rfl
theorem Try.cellsFail : Try.prog.cellsOf 32 = 4 := by kernel_rfl
theorem ten_of {α : Type} (l : List α) (h : l.length = 10) : ∃ c0 c1 c2 c3 c4 c5 c6 c7 c8 c9, l = [c0, c1, c2, c3, c4, c5, c6, c7, c8, c9] := by
  match l, h with
  | [c0, c1, c2, c3, c4, c5, c6, c7, c8, c9], _ => exact ⟨c0, c1, c2, c3, c4, c5, c6, c7, c8, c9, rfl⟩
instance : Inhabited StepM := ⟨stepZ⟩
theorem some_ofS {α : Type} {o : Option α} {l : List α} {i : Nat} (h : o = l[i]?) (hi : i < l.length) : ∃ x, o = some x := ⟨l[i], by rw [h, List.getElem?_eq_getElem hi]⟩
theorem fail_cells {H : Type} {enc : TypeId × Value → H} {W : World} {sp : Nat → Bool} {held : Bool} {n : Nat} {c0 c1 c2 c3 : Value} {x : DataW H × List MemPlace} (h : DataW.trod enc Try.prog W 0 sp held n 32 [c0, c1, c2, c3] = some x) :
    ∃ (f0 f1 : Int) (k1 k2 : ByteArray), c0 = .int .i64 f0 ∧ c1 = .int .i64 f1 ∧ c2 = .string k1 ∧ c3 = .string k2 ∧ (Lit.int .i64 f0).wf = true ∧ (Lit.int .i64 f1).wf = true ∧ k1.size ≤ maxLen ∧ k2.size ≤ maxLen := by
  obtain ⟨xs, m, rfl, hx, hl, hlen, hg⟩ := DataW.trod_struct Try.underlying32 h; have hlen4 : xs.length = 4 := hlen
  obtain ⟨y0, g0⟩ := some_ofS (hg 0 _ rfl) (by omega)
  obtain ⟨y1, g1⟩ := some_ofS (hg 1 _ rfl) (by omega)
  obtain ⟨y2, g2⟩ := some_ofS (hg 2 _ rfl) (by omega)
  obtain ⟨y3, g3⟩ := some_ofS (hg 3 _ rfl) (by omega)
  obtain ⟨f0, e0, _, w0⟩ := DataW.trod_int Try.underlying3 g0; obtain ⟨f1, e1, _, w1⟩ := DataW.trod_int Try.underlying3 g1; obtain ⟨k1, e2, _, w2⟩ := DataW.trod_string Try.underlying9 g2; obtain ⟨k2, e3, _, w3⟩ := DataW.trod_string Try.underlying9 g3
  refine ⟨f0, f1, k1, k2, ?_, ?_, ?_, ?_, w0, w1, w2, w3⟩
  · simpa [Try.cellsIntS] using e0
  · simpa [Try.cellsIntS] using e1
  · simpa [Try.cellsStrS] using e2
  · simpa [Try.cellsStrS] using e3
theorem step_cells {H : Type} {enc : TypeId × Value → H} {W : World} {sp : Nat → Bool} {held : Bool} {n : Nat} {cs : List Value} {x : DataW H × List MemPlace} (h : DataW.trod enc Try.prog W 0 sp held n 34 cs = some x) :
    ∃ o : StepM, cs = stepC o ∧ StepOk o := by
  obtain ⟨xs, m, rfl, hx, hl, hlen, hg⟩ := DataW.trod_struct Try.underlying34 h
  rw [Try.cellsStep] at hl
  obtain ⟨c0, c1, c2, c3, c4, c5, c6, c7, c8, c9, rfl⟩ := ten_of cs hl; have hlen7 : xs.length = 7 := hlen
  obtain ⟨y0, g0⟩ := some_ofS (hg 0 _ rfl) (by omega)
  obtain ⟨y1, g1⟩ := some_ofS (hg 1 _ rfl) (by omega)
  obtain ⟨y2, g2⟩ := some_ofS (hg 2 _ rfl) (by omega)
  obtain ⟨y3, g3⟩ := some_ofS (hg 3 _ rfl) (by omega)
  obtain ⟨y4, g4⟩ := some_ofS (hg 4 _ rfl) (by omega)
  obtain ⟨y5, g5⟩ := some_ofS (hg 5 _ rfl) (by omega)
  obtain ⟨y6, g6⟩ := some_ofS (hg 6 _ rfl) (by omega)
  obtain ⟨kd, e0, _, w0⟩ := DataW.trod_int Try.underlying3 g0; obtain ⟨who, e1, _, w1⟩ := DataW.trod_int Try.underlying3 g1; obtain ⟨pn, e2, _, w2⟩ := DataW.trod_int Try.underlying3 g2; obtain ⟨dr, e3, _, w3⟩ := DataW.trod_int Try.underlying3 g3; obtain ⟨tx, e4, _, w4⟩ := DataW.trod_string Try.underlying9 g4; obtain ⟨cut, e5, _⟩ := DataW.trod_bool Try.underlying4 g5
  have g6' : DataW.trod enc Try.prog W 0 sp held m 32 [c6, c7, c8, c9] = some y6 := by simpa [Try.cellsFail] using g6
  obtain ⟨f0, f1, k1, k2, q0, q1, q2, q3, z0, z1, z2, z3⟩ := fail_cells g6'
  have e0' : c0 = .int .i64 kd := by simpa [Try.cellsIntS] using e0
  have e1' : c1 = .int .i64 who := by simpa [Try.cellsIntS] using e1
  have e2' : c2 = .int .i64 pn := by simpa [Try.cellsIntS] using e2
  have e3' : c3 = .int .i64 dr := by simpa [Try.cellsIntS] using e3
  have e4' : c4 = .string tx := by simpa [Try.cellsStrS] using e4
  have e5' : c5 = .bool cut := by simpa [Try.cellsBoolS] using e5
  exact ⟨⟨kd, who, pn, dr, tx, cut, f0, f1, k1, k2⟩, by rw [e0', e1', e2', e3', e4', e5', q0, q1, q2, q3]; rfl, ⟨wf_i64 w2, wf_i64 w3, wf_i64 z0, wf_i64 z1, w4, z2, z3⟩⟩
theorem steps_arg {H : Type} {enc : TypeId × Value → H} {W : World} {base : Nat} {v : Value} {d : DataW H} {p : List MemPlace} (hok : Value.okWide Try.prog W .any base 24 v) (h : DataW.Trod enc Try.prog W 0 (fun _ => true) true 24 v d p) :
    ∃ l : List StepM, StepsAt W v l ∧ (∀ o ∈ l, StepOk o) ∧ ((d = .nil ∧ l = []) ∨ ∃ es sp, d = .slice es sp ∧ l.length ≤ es.length + sp.length) := by
  obtain ⟨a0, len, cap, rfl⟩ := okWide_slice Try.underlying24 hok; obtain ⟨fuel, hf⟩ := h
  rcases open_slice Try.underlying24 hf with ⟨hcs, hx⟩ | ⟨a, len', cap', m, n, D, Pl, hcs, _, hl, hm, hmm, hx, hel⟩
  · simp [Value.cells] at hcs
    obtain ⟨rfl, rfl, rfl⟩ := hcs
    simp only [Prod.mk.injEq] at hx
    exact ⟨[], .inl ⟨rfl, none, 0, rfl⟩, fun x hx => by simp at hx, .inl ⟨hx.1, rfl⟩⟩
  · simp [Value.cells] at hcs
    obtain ⟨rfl, rfl, rfl⟩ := hcs
    simp only [Prod.mk.injEq] at hx
    have hlm : len ≤ m := by rw [hmm]; split <;> omega
    rw [Try.cellsStep] at hel
    obtain ⟨f, hf2⟩ := choose_lt (α := StepM) (n := len) (p := fun i o => W.cells? 0 (a.add (i * 10)) 10 = some (stepC o) ∧ StepOk o) (fun i hi => by
      obtain ⟨cs', h1, h2⟩ := hel i (by omega)
      obtain ⟨o, ho, hoo⟩ := step_cells h2
      exact ⟨o, by rw [h1, ho], hoo⟩)
    have hlen : ((List.range len).map f).length = len := by simp
    have hgd : ∀ i, i < len → ((List.range len).map f).getD i stepZ = f i := fun i hi => by
      rw [List.getD_eq_getElem?_getD, List.getElem?_map, List.getElem?_range hi]; rfl
    refine ⟨(List.range len).map f, ?_, ?_, .inr ⟨_, _, hx.1, ?_⟩⟩
    · by_cases h0 : len = 0
      · subst h0; exact .inl ⟨rfl, _, _, rfl⟩
      · right
        obtain ⟨_, _, hc0⟩ := World.cells?_some (hf2 0 (by omega)).1
        have hcell0 := hc0 0 (by omega)
        obtain ⟨b, off, spot⟩ := a
        have hsp0 : ((⟨b, off, spot⟩ : Addr).add (0 * 10)).add 0 = ⟨b, off, spot⟩ := by simp [Addr.add]
        rw [hsp0] at hcell0
        have hcell1 : W.cell? ⟨b, off, spot⟩ = some (.int .i64 (f 0).kd) := hcell0
        have hspot : spot = none := World.cell?_spot hcell1
        subst hspot
        refine ⟨b, off, cap, by rw [hlen], ?_, fun i hi j hj => ?_⟩
        · rcases Nat.lt_or_ge b W.heap.size with q | q
          · exact q
          · unfold World.cell? at hcell1
            rw [Array.getElem?_eq_none (by exact q)] at hcell1
            simp at hcell1
        · rw [hlen] at hi
          obtain ⟨_, _, hc⟩ := World.cells?_some (hf2 i hi).1
          have := hc j hj
          rw [add_add, add_plain, ← Nat.add_assoc] at this
          rw [hgd i hi, this]
    · intro o ho
      obtain ⟨i, hi, rfl⟩ := List.mem_map.1 ho; exact (hf2 i (List.mem_range.1 hi)).2
    · simp
end Go.Proofs.Ytabpkohcimiceab
