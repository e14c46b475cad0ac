import Derived.Test.YtabpkohcimiceabGreatPlanA
import Derived.Laws.ResultCell
import Derived.BigRegion
import Derived.Deep.RegionLaw
namespace Go.Proofs.YtabpkohcimiceabGreat
set_option maxRecDepth 100000
set_option maxHeartbeats 1000000
open Go.RowKit
set_option linter.unusedVariables false
def entAt (t : List UInt8) (i : Nat) : EntM := ⟨(t.getD (40 + 10 * i) 0).toNat, (t.getD (41 + 10 * i) 0).toNat, (t.drop (42 + 10 * i)).take 8⟩
def seenN (t : List UInt8) (c n : Nat) : StM :=
  { role := (t.getD 0 0).toNat, step := (t.getD 1 0).toNat, sent := (t.getD 2 0).toNat, got := (t.getD 3 0).toNat, prev := (t.getD 4 0).toNat, skip := (t.getD 5 0).toNat, cap := c, root := (t.drop 8).take 8, out := (t.drop 16).take 8, inn := (t.drop 24).take 8, secret := wn 4 (t.drop 32), peer := wn 4 (t.drop 36), kept := (List.range n).map (entAt t) }
def seenS (t : List UInt8) (c : Nat) : StM := seenN t c (t.getD 7 0).toNat
theorem Tryz.infoEntry : (Tryz.prog.info? 119).map (fun i => (i.zero, i.size, i.bytes)) = some (some (.agg #[.int .i64 0, .int .i64 0, .string ⟨#[]⟩]), 3, 32) := by kernel_rfl
theorem kept_len (t : List UInt8) (n : Nat) : ((List.range n).map (entAt t)).length = n := by simp
theorem kept_push (t : List UInt8) (n : Nat) : entsCells ((List.range (n + 1)).map (entAt t)) = entsCells ((List.range n).map (entAt t)) ++ entCells (entAt t n) := by
  rw [List.range_succ, List.map_append, entsCells_append]; simp [entsCells]
theorem ext_sub (s : ByteArray) (a b : Nat) : s.extract a b = str ((s.data.toList.drop a).take (b - a)) := by
  rw [← str_of (s.extract a b)]
  congr 1
  simp [ByteArray.data_extract]
def zeroCells13 : Array Value := #[.int .i64 0, .int .i64 0, .int .i64 0, .int .i64 0, .int .i64 0, .int .i64 0, .int .i64 0, .string ⟨#[]⟩, .string ⟨#[]⟩, .string ⟨#[]⟩, .int .i64 0, .int .i64 0, .slice none 0 0]
structure SeenAt (w wr : World) (A B : Nat) (s : StM) (v : Value) : Prop where
  below : Below w.heap.size w wr
  st : StAt wr B s v
  fr : wr.frozen? ⟨B, 12, none⟩ = false
  res : wr.heap[A]? = some (.cells zeroCells13 63)
  own : wr.ownsRow (B + 1) 119 3 v s.kept.length (entsCells s.kept)
theorem ownsRow_base {w : World} {base b2 : Nat} {e : TypeId} {size : Nat} {v : Value} {n : Nat} {xs : List Value} (h : w.ownsRow base e size v n xs) (hb : b2 ≤ base) : w.ownsRow b2 e size v n xs :=
  ⟨h.1, h.2.imp id fun ⟨g, cap, cur, h1, h2, h3⟩ => ⟨g, cap, cur, h1, Nat.le_trans hb h2, h3⟩⟩
theorem far_block {wr w2 : World} {A : Nat} {o : Obj} {kv : Value} {i : Nat} {xs : List Value} {e : TypeId} (hown : wr.ownsRow (A + 1 + 1) e 3 kv i xs) (B : Nat) (hB : B ≤ A + 1) (hlt : B < wr.heap.size) (hg : (wr.alloc o).drew.grownBy w2 kv.ownBlock) : w2.heap[B]? = wr.heap[B]? := by
  have h1 := hg.block B (by simp; omega) (fun e => by have := (hown.lt B e.symm).1; omega)
  exact h1.trans (Below.heap_alloc wr o B hlt)
theorem far12 {wr w2 : World} {A : Nat} {o : Obj} {kv : Value} {i : Nat} {xs : List Value} {e : TypeId} (hown : wr.ownsRow (A + 1 + 1) e 3 kv i xs) (h12 : wr.cell? ⟨A + 1, 12, none⟩ = some kv) (hfr : wr.frozen? ⟨A + 1, 12, none⟩ = false) (hlt : A + 1 < wr.heap.size) (hg : (wr.alloc o).drew.grownBy w2 kv.ownBlock) :
    w2.cell? ⟨A + 1, 12, none⟩ = some kv ∧ w2.frozen? ⟨A + 1, 12, none⟩ = false := by
  have h := far_block hown (A + 1) (Nat.le_refl _) hlt hg
  exact ⟨(World.cell?_of_block (a := ⟨A + 1, 12, none⟩) h).trans h12, (World.frozen?_of_block (a := ⟨A + 1, 12, none⟩) h).trans hfr⟩
theorem seen_step {w wr w2 : World} {A : Nat} {t : List UInt8} {c i gg cap : Nat} {kv : Value} {o : Obj} {new : List Value} (hS : SeenAt w wr A (A + 1) (seenN t c i) kv) (hwA : w.heap.size ≤ A)
    (hown1 : w2.ownsRow (A + 1 + 1) 119 3 (.slice (some ⟨gg, 0, none⟩) (i + 1) cap) (i + 1) (entsCells ((List.range i).map (entAt t)) ++ new)) (hnew : new = entCells (entAt t i)) (hgrow : (wr.alloc o).drew.grownBy w2 kv.ownBlock) :
    SeenAt w (w2.setCell ⟨A + 1, 12, none⟩ (.slice (some ⟨gg, 0, none⟩) (i + 1) cap)) A (A + 1) (seenN t c (i + 1)) (.slice (some ⟨gg, 0, none⟩) (i + 1) cap) := by
  obtain ⟨hb, hst, hfr, hres, hown⟩ := hS
  have hown' : wr.ownsRow (A + 1 + 1) 119 3 kv i (entsCells ((List.range i).map (entAt t))) := by
    rw [show (seenN t c i).kept = (List.range i).map (entAt t) from rfl, kept_len] at hown
    exact hown
  have hB := far_block hown' (A + 1) (Nat.le_refl _) hst.lt hgrow
  have hA := far_block hown' A (by omega) (by have := hst.lt; omega) hgrow
  have hsz : wr.heap.size ≤ w2.heap.size := by have := hgrow.size; simp at this; omega
  have f : ∀ j x, j ≠ 12 → wr.cell? ⟨A + 1, j, none⟩ = some x → (w2.setCell ⟨A + 1, 12, none⟩ (.slice (some ⟨gg, 0, none⟩) (i + 1) cap)).cell? ⟨A + 1, j, none⟩ = some x := by
    intro j x hj hx
    refine Eq.trans (World.cell?_setCell_other (h := by intro e; injection e with _ e; exact hj e.symm) ..) ?_
    exact (World.cell?_of_block (a := ⟨A + 1, j, none⟩) hB).trans hx
  refine ⟨?_, ⟨by simp; have := hst.lt; omega, f _ _ (by omega) hst.c0, f _ _ (by omega) hst.c1, f _ _ (by omega) hst.c2, f _ _ (by omega) hst.c3, f _ _ (by omega) hst.c4, f _ _ (by omega) hst.c5, f _ _ (by omega) hst.c6, f _ _ (by omega) hst.c7, f _ _ (by omega) hst.c8, f _ _ (by omega) hst.c9, f _ _ (by omega) hst.c10, f _ _ (by omega) hst.c11, ?_⟩, ?_, ?_, ?_⟩
  · refine Below.setCell (((hb.alloc hb.size o).drew).grown hgrow ?_ ?_) (by show w.heap.size ≤ A + 1; omega) _
    · have := hb.size; simp; omega
    · intro k hk; have := (hown'.lt k hk).1; omega
  · exact World.cell?_setCell_same (h := (World.cell?_of_block (a := ⟨A + 1, 12, none⟩) hB).trans hst.c12) ..
  · rw [World.frozen?_setCell]; exact (World.frozen?_of_block (a := ⟨A + 1, 12, none⟩) hB).trans hfr
  · rw [heap_setCell_other _ _ _ _ (by show A ≠ A + 1; omega), hA]; exact hres
  · refine ownsRow_setCell_below ?_ (by show A + 1 < A + 1 + 1; omega) _
    rw [show (seenN t c (i + 1)).kept = (List.range (i + 1)).map (entAt t) from rfl, kept_len, kept_push, ← hnew]
    exact hown1
theorem entCells_at (t : List UInt8) (i : Nat) (x : ByteArray) (h10 : x.size = 10) (hx : x.data.toList = (t.drop (40 + 10 * i)).take 10) :
    [.int .i64 ((x[0]'(by omega)).toNat : Int), .int .i64 ((x[1]'(by omega)).toNat : Int), .string (x.extract 2 10)] = entCells (entAt t i) := by
  have e0 := getD_at x 0 (by omega)
  have e1 := getD_at x 1 (by omega)
  rw [hx, getD_tk, if_pos (by omega), getD_dp] at e0 e1
  have e2 : x.extract 2 10 = str ((t.drop (42 + 10 * i)).take 8) := by
    rw [ext_sub, hx]
    congr 1
    rw [List.drop_take, List.drop_drop, List.take_take]
    congr 2 <;> omega
  rw [entCells, entAt, e2]
  simp only
  rw [← e0, ← e1]
  simp only [Nat.add_zero]
  rw [show 40 + 10 * i + 1 = 41 + 10 * i by omega]
set_option maxHeartbeats 8000000 in
theorem seen_any (t : ByteArray) (c : Nat) (w : World) (ht : 64 ≤ t.size) (ht2 : t.size ≤ 1000) (hc : 40 + 10 * c ≤ t.size) (hc2 : c ≤ 30)
    (h6 : t[6].toNat = c) (h7 : t[7].toNat ≤ c) :
    Calls Tryz.prog 123 #[.string t, .int .i64 c] w fun e w' => (∃ v, e = .returned (.tuple #[.agg (stCells (seenS t.data.toList c) v), .bool true]) ∧ w'.ownsRow w.heap.size 119 3 v (seenS t.data.toList c).kept.length (entsCells (seenS t.data.toList c).kept)) ∧ Below w.heap.size w w' := by
  obtain ⟨i0, hi0, hz0, hz1, hz2⟩ := info_parts Tryz.infoEntry; have b0 := t[0].toNat_lt; have b1 := t[1].toNat_lt; have b2 := t[2].toNat_lt; have b3 := t[3].toNat_lt; have b4 := t[4].toNat_lt; have b5 := t[5].toNat_lt; have b6 := t[6].toNat_lt; have b7 := t[7].toNat_lt
  have s0 : (0 : Int) < (t.size : Int) := by omega
  have s1 : (1 : Int) < (t.size : Int) := by omega
  have s2 : (2 : Int) < (t.size : Int) := by omega
  have s3 : (3 : Int) < (t.size : Int) := by omega
  have s4 : (4 : Int) < (t.size : Int) := by omega
  have s5 : (5 : Int) < (t.size : Int) := by omega
  have s6 : (6 : Int) < (t.size : Int) := by omega
  have s7 : (7 : Int) < (t.size : Int) := by omega
  have n0 : 0 < t.size := by omega
  have n1 : 1 < t.size := by omega
  have n2 : 2 < t.size := by omega
  have n3 : 3 < t.size := by omega
  have n4 : 4 < t.size := by omega
  have n5 : 5 < t.size := by omega
  have n6 : 6 < t.size := by omega
  have n7 : 7 < t.size := by omega
  have q6 : (t[6].toNat : Int) = (c : Int) := by omega
  have q7 : ¬ (c : Int) < (t[7].toNat : Int) := by omega
  have cv1 := fun w => value_any (t.extract 32 36) w (by rw [ByteArray.size_extract]; unfold maxLen; omega)
  have cv2 := fun w => value_any (t.extract 36 40) w (by rw [ByteArray.size_extract]; unfold maxLen; omega)
  have tok1 : True := trivial
  go_enter Tryz.func123, Tryz.ntmps123
  go_upto_region 4 with fail
  go_cut [] (fun wx => wx = ((w.alloc (.cells zeroCells13 63)).alloc (.cells #[.int .i64 (t[0].toNat : Int), .int .i64 (t[1].toNat : Int), .int .i64 (t[2].toNat : Int), .int .i64 (t[3].toNat : Int), .int .i64 (t[4].toNat : Int), .int .i64 (t[5].toNat : Int), .int .i64 c, .string ⟨#[]⟩, .string ⟨#[]⟩, .string ⟨#[]⟩, .int .i64 0, .int .i64 0, .slice none 0 0] 63)).drew)
  case first =>
    go_region
    go_wp2_with fail
    go_meet
    case rel => rfl
  case rest =>
  subst hcut
  go_upto_region 10 with (first | (go_at_call 140; have _t := tok1; refine (cv1 _).mono ?_; rintro e w' ⟨rfl, hw⟩; rw [hw]; clear hw w' tok1) | (go_at_call 140; refine (cv2 _).mono ?_; rintro e w' ⟨rfl, hw⟩; rw [hw]; clear hw w'))
  have hS : SeenAt w (((w.alloc (.cells zeroCells13 63)).alloc (.cells #[.int .i64 (t[0].toNat : Int), .int .i64 (t[1].toNat : Int), .int .i64 (t[2].toNat : Int), .int .i64 (t[3].toNat : Int), .int .i64 (t[4].toNat : Int), .int .i64 (t[5].toNat : Int), .int .i64 c, .string (t.extract 8 16), .string (t.extract 16 24), .string (t.extract 24 32), .int .i64 ((wn 4 (List.take 4 (List.drop 32 t.data.toList)) : Nat) : Int), .int .i64 ((wn 4 (List.take 4 (List.drop 36 t.data.toList)) : Nat) : Int), .slice none 0 0] 63)).drew) w.heap.size (w.heap.size + 1) (seenN t.data.toList c 0) (.slice none 0 0) := by
    have hst : StAt (((w.alloc (.cells zeroCells13 63)).alloc (.cells (stCells (seenN t.data.toList c 0) (.slice none 0 0)) 63)).drew) (w.heap.size + 1) (seenN t.data.toList c 0) (.slice none 0 0) := by
      have := StAt.made (w.alloc (.cells zeroCells13 63)) (seenN t.data.toList c 0) (.slice none 0 0)
      have e : (w.alloc (.cells zeroCells13 63)).heap.size = w.heap.size + 1 := by simp
      rw [e] at this
      exact this.next (Below.refl _ _).drew
    have ec : stCells (seenN t.data.toList c 0) (.slice none 0 0) = #[.int .i64 (t[0].toNat : Int), .int .i64 (t[1].toNat : Int), .int .i64 (t[2].toNat : Int), .int .i64 (t[3].toNat : Int), .int .i64 (t[4].toNat : Int), .int .i64 (t[5].toNat : Int), .int .i64 c, .string (t.extract 8 16), .string (t.extract 16 24), .string (t.extract 24 32), .int .i64 ((wn 4 (List.take 4 (List.drop 32 t.data.toList)) : Nat) : Int), .int .i64 ((wn 4 (List.take 4 (List.drop 36 t.data.toList)) : Nat) : Int), .slice none 0 0] := by
      rw [stCells, seenN]
      simp only [getD_at t 0 n0, getD_at t 1 n1, getD_at t 2 n2, getD_at t 3 n3, getD_at t 4 n4, getD_at t 5 n5, ext_sub, wn_take _ 4 (Nat.le_refl _)]
    rw [ec] at hst
    refine ⟨?_, hst, ?_, ?_, World.ownsRow_nil _ _ _ _⟩
    · exact (((Below.refl _ _).alloc (Nat.le_refl _) _).alloc (by simp) _).drew
    · simp [go_sem]
    · exact (Below.heap_alloc (w.alloc (.cells zeroCells13 63)) _ w.heap.size (by simp)).trans (heap_alloc_new w _)
  generalize (((w.alloc (.cells zeroCells13 63)).alloc (.cells #[.int .i64 (t[0].toNat : Int), .int .i64 (t[1].toNat : Int), .int .i64 (t[2].toNat : Int), .int .i64 (t[3].toNat : Int), .int .i64 (t[4].toNat : Int), .int .i64 (t[5].toNat : Int), .int .i64 c, .string (t.extract 8 16), .string (t.extract 16 24), .string (t.extract 24 32), .int .i64 ((wn 4 (List.take 4 (List.drop 32 t.data.toList)) : Nat) : Int), .int .i64 ((wn 4 (List.take 4 (List.drop 36 t.data.toList)) : Nat) : Int), .slice none 0 0] 63)).drew) = wS at hS ⊢
  clear cv1 cv2
  obtain ⟨A, hA⟩ : ∃ A, A = w.heap.size := ⟨_, rfl⟩
  rw [← hA] at hS ⊢
  have HA : Hid (A = w.heap.size) := hA; clear hA; go_wp2
  go_loopg [7] (t[7].toNat + 1) (fun g v wr => ∃ i : Nat, ∃ kv, v = .int .i64 i ∧ i ≤ t[7].toNat ∧ g + i = t[7].toNat + 1 ∧ SeenAt w wr A (A + 1) (seenN t.data.toList c i) kv)
  case atStart => exact ⟨0, _, rfl, by omega, by omega, hS⟩
  case round =>
    obtain ⟨i, kv, rfl, hi, hg, hS⟩ := hrel
    by_cases hlt : i < t[7].toNat
    · have hI : (i : Int) < (t[7].toNat : Int) := by omega
      have i0I : (0 : Int) ≤ (i : Int) := by omega
      go_upto_region 14 with fail
      have hx10 : (t.extract (40 + 10 * i) (50 + 10 * i)).size = 10 := by rw [ByteArray.size_extract]; omega
      have hxl : (t.extract (40 + 10 * i) (50 + 10 * i)).data.toList = (t.data.toList.drop (40 + 10 * i)).take 10 := by
        rw [ext_sub, str_toList, show 50 + 10 * i - (40 + 10 * i) = 10 by omega]
      generalize t.extract (40 + 10 * i) (50 + 10 * i) = x at hx10 hxl ⊢
      have HXL : Hid (x.data.toList = (t.data.toList.drop (40 + 10 * i)).take 10) := hxl; clear hxl
      have x0 : (0 : Int) < (x.size : Int) := by omega
      have x1 : (1 : Int) < (x.size : Int) := by omega
      have x2 : (2 : Int) ≤ (x.size : Int) := by omega
      have y0 : 0 < x.size := by omega
      have y1 : 1 < x.size := by omega
      have y2 : 2 ≤ x.size := by omega
      have z0 := x[0].toNat_lt; have z1 := x[1].toNat_lt; have hil := kept_len t.data.toList i
      have v0 : IntKind.i64.wrap (x[0].toNat : Int) = (x[0].toNat : Int) := by rw [IntKind.wrap_i64]; omega
      have v1 : IntKind.i64.wrap (x[1].toNat : Int) = (x[1].toNat : Int) := by rw [IntKind.wrap_i64]; omega
      have hown0 := hS.own
      have hown : wr.ownsRow (A + 1 + 1) 119 3 kv i (entsCells ((List.range i).map (entAt t.data.toList))) := by
        have h := hown0
        rw [show (seenN t.data.toList c i).kept = (List.range i).map (entAt t.data.toList) from rfl, kept_len] at h
        exact h
      have k12 := hS.st.c12; have kfr := hS.fr; have klt := hS.st.lt; have HS : Hid (SeenAt w wr A (A + 1) (seenN t.data.toList c i) kv) := hS; clear hown0 hS
      go_region_law (refine step_append_lies _ (by rfl) _ _ _ (by rfl) (A + 1 + 1) 119 i0 _ 3 32 Tryz.underlying61 hi0 hz0 hz1 hz2 rfl (by omega) kv i (entsCells ((List.range i).map (entAt t.data.toList))) (by rfl) ((hown.alloc _).drew) ⟨wr.heap.size, 0, none⟩ 1 1 [.int .i64 (x[0].toNat : Int), .int .i64 (x[1].toNat : Int), .string (x.extract 2 10)] (by rfl) (by rfl) (World.news_of_block (cs := #[.int .i64 (x[0].toNat : Int), .int .i64 (x[1].toNat : Int), .string (x.extract 2 10)]) (t := 119) (fr := (0, 0)) (heap_alloc_new wr _)) (by simp [Value.oneCell']) (by omega) (by unfold maxLen; omega) (by omega) (by simp; omega) (wr.heap.size + 1) (by simp) ?_; intro gg cap w2 hown1 hgrow hat hlt2; obtain ⟨v12, v13⟩ := far12 hown k12 kfr klt hgrow)
      all_goals go_wp2
      all_goals go_roundg (gk - 1)
      all_goals first
        | omega
        | skip
      all_goals exact ⟨i + 1, _, by simp, by omega, by omega, seen_step HS.out (by rw [HA.out]; exact Nat.le_refl _) hown1 (entCells_at _ i x hx10 HXL.out) hgrow⟩
    · obtain rfl : i = t[7].toNat := by omega
      go_upto_region 15 with fail
      obtain ⟨hb, hst, hfr, hres, hown⟩ := hS
      obtain ⟨aa, nn, cc, hkv⟩ : ∃ aa nn cc, kv = .slice aa nn cc := by
        obtain ⟨aa, cc, h⟩ := (EntsAt.of_own hown).form; exact ⟨aa, _, cc, h⟩
      subst hkv; obtain ⟨lt, k0, k1, k2, k3, k4, k5, k6, k7, k8, k9, k10, k11, k12⟩ := hst
      have hcell : ∀ j, wr.cell? ⟨A, j, none⟩ = zeroCells13[j]? := fun j => cell_of_row wr A j _ _ _ hres
      have hfro : ∀ j, wr.frozen? ⟨A, j, none⟩ = false := fun j => frozen_of_row wr A j _ _ hres
      have a0 : wr.cell? ⟨A, 0, none⟩ = some (.int .i64 0) := hcell 0; have a1 : wr.cell? ⟨A, 1, none⟩ = some (.int .i64 0) := hcell 1; have a2 : wr.cell? ⟨A, 2, none⟩ = some (.int .i64 0) := hcell 2; have a3 : wr.cell? ⟨A, 3, none⟩ = some (.int .i64 0) := hcell 3; have a4 : wr.cell? ⟨A, 4, none⟩ = some (.int .i64 0) := hcell 4; have a5 : wr.cell? ⟨A, 5, none⟩ = some (.int .i64 0) := hcell 5; have a6 : wr.cell? ⟨A, 6, none⟩ = some (.int .i64 0) := hcell 6; have a7 : wr.cell? ⟨A, 7, none⟩ = some (.string ⟨#[]⟩) := hcell 7; have a8 : wr.cell? ⟨A, 8, none⟩ = some (.string ⟨#[]⟩) := hcell 8; have a9 : wr.cell? ⟨A, 9, none⟩ = some (.string ⟨#[]⟩) := hcell 9; have a10 : wr.cell? ⟨A, 10, none⟩ = some (.int .i64 0) := hcell 10; have a11 : wr.cell? ⟨A, 11, none⟩ = some (.int .i64 0) := hcell 11; have a12 : wr.cell? ⟨A, 12, none⟩ = some (.slice none 0 0) := hcell 12; have HB := hid hb; have HK := hid hown
      have hAlt : A < wr.heap.size := by omega
      have hse : seenS t.data.toList c = seenN t.data.toList c t[7].toNat := by rw [seenS, getD_at t 7 n7]
      have HSE : Hid (seenS t.data.toList c = seenN t.data.toList c t[7].toNat) := hse; clear hcell hres hb hse hown hfr
      generalize seenN t.data.toList c t[7].toNat = ss at *
      go_wp2
      (try simp only [Exit.inBlock, Exit.then])
      refine bodyPost_ret (v := .tuple #[.agg (stCells ss (.slice aa nn cc)), .bool true]) ?_ ?_ ?_
      · rw [results_cell_tmp (fn := Tryz.f123) rfl]; simp [go_sem, stCells, a0, a1, a2, a3, a4, a5, a6, a7, a8, a9, a10, a11, a12]
      · rfl
      rw [HSE.out]
      refine ⟨⟨.slice aa nn cc, rfl, ?_⟩, ?_⟩
      · have hk := HK.out
        refine ownsRow_base (base := A + 1 + 1) ?_ (by rw [HA.out]; omega)
        repeat (refine ownsRow_setCell_below ?_ (by show A < A + 1 + 1; omega) _)
        exact hk
      · have hb := HB.out
        repeat (refine Below.setCell ?_ (by rw [HA.out]; exact Nat.le_refl _) _)
        exact hb
end Go.Proofs.YtabpkohcimiceabGreat
namespace Go.Proofs.YtabpkohcimiceabGreat
set_option maxRecDepth 100000
set_option maxHeartbeats 1000000
open Go.RowKit
def fromL (d : List UInt8) : Nat := 32 + (d.getD 5 0).toNat * (halfN (d.getD 4 0).toNat * 32)
def sideOf (d : List UInt8) : List UInt8 := (d.drop (fromL d)).take (halfN (d.getD 4 0).toNat * 32)
def headOk (d : List UInt8) : Prop := 32 ≤ d.length ∧ (d.getD 4 0).toNat ≤ 30 ∧ (d.getD 5 0).toNat ≤ 1 ∧ d.take 32 = topL (d.getD 4 0).toNat (d.getD 5 0).toNat ∧ 32 + 2 * (halfN (d.getD 4 0).toNat * 32) ≤ d.length
instance (d : List UInt8) : Decidable (headOk d) := inferInstanceAs (Decidable (_ ∧ _))
def sideOk (t : List UInt8) (c : Nat) : Prop := (t.getD 6 0).toNat = c ∧ (t.getD 7 0).toNat ≤ c ∧ lawfulL (seenS t c) = true ∧ sideL (seenS t c) = t
instance (t : List UInt8) (c : Nat) : Decidable (sideOk t c) := inferInstanceAs (Decidable (_ ∧ _))
def heldOk (d : List UInt8) : Prop := headOk d ∧ sideOk (sideOf d) (d.getD 4 0).toNat
instance (d : List UInt8) : Decidable (heldOk d) := inferInstanceAs (Decidable (_ ∧ _))
def heldS (d : List UInt8) : StM := seenS (sideOf d) (d.getD 4 0).toNat
def liveL (d : List UInt8) : Nat := (d.getD 5 0).toNat
def repairR (d : List UInt8) : List UInt8 × Int :=
  if isDiskL d = true then
    if d.take 32 = List.replicate 32 0 then (List.replicate d.length 0, 0)
    else if heldOk d then (packL (heldS d) (liveL d) d.length, 0) else ([], 12)
  else ([], 6)
theorem halfN_le (c : Nat) (h : c ≤ 30) : halfN c ≤ 11 ∧ 2 ≤ halfN c ∧ 40 + 10 * c ≤ halfN c * 32 := by unfold halfN; omega
theorem sideOf_length (d : List UInt8) (h : headOk d) : (sideOf d).length = halfN (d.getD 4 0).toNat * 32 := by
  obtain ⟨_, h2, h3, _, h5⟩ := h; rw [sideOf, List.length_take, List.length_drop, fromL]
  have : (d.getD 5 0).toNat = 0 ∨ (d.getD 5 0).toNat = 1 := by omega
  rcases this with e | e <;> rw [e] <;> omega
theorem part_len (t : List UInt8) (a b : Nat) (h : a + b ≤ t.length) : ((t.drop a).take b).length = b := by
  rw [List.length_take, List.length_drop]; omega
theorem byte_le (c : UInt8) : c.toNat ≤ 255 := by have := c.toNat_lt; omega
theorem seen_ok (t : List UInt8) (c : Nat) (h1 : 40 + 10 * c ≤ t.length) (hc : c ≤ 30) (h7 : (t.getD 7 0).toNat ≤ c) : StOk (seenS t c) := by
  refine ⟨byte_le _, byte_le _, byte_le _, byte_le _, byte_le _, byte_le _, by show c ≤ 255; omega, part_len t 8 8 (by omega), part_len t 16 8 (by omega), part_len t 24 8 (by omega), ?_, ?_, ?_, ?_⟩
  · have := wn_lt 4 (t.drop 32); exact this
  · have := wn_lt 4 (t.drop 36); exact this
  · show ((List.range (t.getD 7 0).toNat).map (entAt t)).length ≤ 255
    rw [kept_len]; omega
  · intro e he
    obtain ⟨i, hi, rfl⟩ := List.mem_map.1 he; have hi' := List.mem_range.1 hi
    exact ⟨byte_le _, byte_le _, part_len t _ 8 (by omega)⟩
end Go.Proofs.YtabpkohcimiceabGreat
