import Derived.Test.YtabpkohcimiceabGreatLooksW
import Derived.Test.YtabpkohcimiceabGreatCreates
import Derived.Handy
namespace Go.Proofs.YtabpkohcimiceabGreat
set_option maxRecDepth 100000
set_option maxHeartbeats 1000000
open Go.RowKit
set_option linter.unusedVariables false
structure LtM where
  bytes : List UInt8
  text : List UInt8
  step : Nat
  count : Nat
  prev : Nat
  secret : Nat
  out : Bool
structure Only (S : Nat → Prop) (w w' : World) : Prop where
  os : w'.os = w.os
  tape : w'.tape = w.tape
  output : w'.output = w.output
  size : w.heap.size ≤ w'.heap.size
  block : ∀ k, k < w.heap.size → ¬ S k → w'.heap[k]? = w.heap[k]?
theorem Only.refl (S : Nat → Prop) (w : World) : Only S w w := ⟨rfl, rfl, rfl, Nat.le_refl _, fun _ _ _ => rfl⟩
theorem Only.trans {S : Nat → Prop} {w w1 w2 : World} (h : Only S w w1) (h2 : Only S w1 w2) : Only S w w2 :=
  ⟨h2.os.trans h.os, h2.tape.trans h.tape, h2.output.trans h.output, Nat.le_trans h.size h2.size, fun k hk hs => (h2.block k (Nat.lt_of_lt_of_le hk h.size) hs).trans (h.block k hk hs)⟩
theorem Only.of_below {S : Nat → Prop} {w w' : World} (h : Below w.heap.size w w') : Only S w w' := ⟨h.os, h.tape, h.output, h.size, fun k hk _ => h.block k hk⟩
theorem Only.then {S : Nat → Prop} {w w1 w2 : World} (h : Only S w w1) (h2 : Below w1.heap.size w1 w2) : Only S w w2 := h.trans (Only.of_below h2)
theorem Only.set {S : Nat → Prop} {w w1 : World} (h : Only S w w1) {b i : Nat} (hb : S b) (x : Value) : Only S w (w1.setCell ⟨b, i, none⟩ x) :=
  h.trans ⟨rfl, rfl, rfl, by rw [World.size_setCell]; exact Nat.le_refl _, fun k _ hs => heap_setCell_other _ _ _ _ (fun e => hs (by rw [show k = b from e]; exact hb))⟩
theorem Only.grown {S : Nat → Prop} {w w1 w2 : World} {row : Option Nat} (h : Only S w w1) (hg : w1.grownBy w2 row) (hs : ∀ k, row = some k → k < w.heap.size → S k) : Only S w w2 := by
  obtain ⟨g1, g2, g3, g4, g5⟩ := hg
  refine ⟨g1.trans h.os, g2.trans h.tape, g3.trans h.output, Nat.le_trans h.size g4, fun k hk hk2 => (g5 k (Nat.lt_of_lt_of_le hk h.size) (fun e => hk2 (hs k e.symm hk))).trans (h.block k hk hk2)⟩
theorem Only.below {S : Nat → Prop} {w w' : World} {base : Nat} (h : Only S w w') (hb : base ≤ w.heap.size) (hs : ∀ k, S k → base ≤ k) : Below base w w' :=
  ⟨h.os, h.tape, h.output, h.size, fun k hk => h.block k (Nat.lt_of_lt_of_le hk hb) (fun q => by have := hs k q; omega)⟩
theorem Only.mono {S S' : Nat → Prop} {w w' : World} (h : Only S w w') (hs : ∀ k, k < w.heap.size → S k → S' k) : Only S' w w' :=
  ⟨h.os, h.tape, h.output, h.size, fun k hk hn => h.block k hk (fun q => hn (hs k hk q))⟩
theorem Only.own {S : Nat → Prop} {w w' : World} {base n size : Nat} {e : TypeId} {v : Value} {xs : List Value} (h : Only S w w') (ho : w.ownsRow base e size v n xs) (hs : ∀ k, v.ownBlock = some k → ¬ S k) : w'.ownsRow base e size v n xs := by
  refine ⟨ho.1, ?_⟩
  rcases ho.2 with q | ⟨g, cap, cur, h1, h2, h3, h4⟩
  · exact .inl q
  · have hlt : g < w.heap.size := by
      rcases Nat.lt_or_ge g w.heap.size with q | q
      · exact q
      · rw [Array.getElem?_eq_none (by exact q)] at h3; cases h3
    exact .inr ⟨g, cap, cur, h1, h2, (h.block g hlt (hs g (by rw [h1]; rfl))).trans h3, h4⟩
set_option linter.unusedSimpArgs false
def onB (who : Int) : Prop := bits .and .i64 who 1 = 1
instance (who : Int) : Decidable (onB who) := inferInstanceAs (Decidable (_ = _))
def diskOf (A B : ByteArray) (who : Int) : ByteArray := if onB who then B else A
theorem wDisk_any (G : Nat) (A B : ByteArray) (v : Value) (who : Int) (w : World) (hG : w.heap[G]? = some (.cells #[.string A, .string B, v] 26)) :
    Calls Tryz.prog 11 #[.pointer (some ⟨G, 0, none⟩), .int .i64 who] w fun e w' => e = .returned (.string (diskOf A B who)) ∧ w' = w := by
  have k0 : w.cell? ⟨G, 0, none⟩ = some (.string A) := cell_of_row w _ 0 _ _ _ hG; have k1 : w.cell? ⟨G, 1, none⟩ = some (.string B) := cell_of_row w _ 1 _ _ _ hG
  by_cases h : onB who
  · rw [diskOf, if_pos h]
    unfold onB at h
    clear hG
    go_enter Tryz.func11, Tryz.ntmps11
    go_wp2; go_ret; exact ⟨rfl, rfl⟩
  · rw [diskOf, if_neg h]
    unfold onB at h
    clear hG
    go_enter Tryz.func11, Tryz.ntmps11
    go_wp2; go_ret; exact ⟨rfl, rfl⟩
def txts (L : List ByteArray) : List Value := L.map .string
theorem txts_at (L : List ByteArray) (i : Nat) (h : i < L.length) : (txts L)[i]? = some (.string L[i]) := by
  rw [txts, List.getElem?_map, List.getElem?_eq_getElem h]; rfl
theorem txtRow {w : World} {base : Nat} {e : TypeId} {v : Value} {L : List ByteArray} (h : w.ownsRow base e 1 v L.length (txts L)) {i : Nat} (hi : i < L.length) :
    ∃ g cap, v = .slice (some ⟨g, 0, none⟩) L.length cap ∧ base ≤ g ∧ w.cell? ⟨g, i, none⟩ = some (.string L[i]) := by
  obtain ⟨g, cap, hv⟩ : ∃ g cap, v = .slice (some ⟨g, 0, none⟩) L.length cap := by
    rcases h.2 with ⟨_, q⟩ | ⟨g, cap, _, h1, _⟩
    · omega
    · exact ⟨g, cap, h1⟩
  subst hv
  exact ⟨g, cap, rfl, (h.lt g rfl).1, by rw [h.cellAt i (by omega), txts_at L i hi]⟩
theorem txtForm {w : World} {base : Nat} {e : TypeId} {v : Value} {L : List ByteArray} (h : w.ownsRow base e 1 v L.length (txts L)) : ∃ a c, v = .slice a L.length c := by
  rcases h.2 with ⟨q, q2⟩ | ⟨g, cap, _, h1, _⟩
  · exact ⟨none, 0, by rw [q, q2]⟩
  · exact ⟨_, _, h1⟩
def setA (A : ByteArray) (who : Int) (x : ByteArray) : ByteArray := if onB who then A else x
def setB (B : ByteArray) (who : Int) (x : ByteArray) : ByteArray := if onB who then x else B
theorem wSet_any (G : Nat) (A B x : ByteArray) (v : Value) (who : Int) (w : World) (hG : w.heap[G]? = some (.cells #[.string A, .string B, v] 26)) :
    Calls Tryz.prog 18 #[.pointer (some ⟨G, 0, none⟩), .int .i64 who, .string x] w fun e w' => e = .returned (.tuple #[]) ∧ w'.heap[G]? = some (.cells #[.string (setA A who x), .string (setB B who x), v] 26) ∧ Only (fun b => b = G) w w' := by
  have k0 : w.cell? ⟨G, 0, none⟩ = some (.string A) := cell_of_row w _ 0 _ _ _ hG; have k1 : w.cell? ⟨G, 1, none⟩ = some (.string B) := cell_of_row w _ 1 _ _ _ hG
  have fG : ∀ j, w.frozen? ⟨G, j, none⟩ = false := fun j => frozen_of_row w _ j _ _ hG
  have HG := hid hG
  by_cases h : onB who
  · rw [setA, setB, if_pos h, if_pos h]
    unfold onB at h
    clear hG
    go_enter Tryz.func18, Tryz.ntmps18
    go_wp2; go_returns
    exact ⟨rfl, heap_setCell_same _ _ _ _ _ _ HG.out, Only.set (S := fun b => b = G) (Only.refl _ _) rfl _⟩
  · rw [setA, setB, if_neg h, if_neg h]
    unfold onB at h
    clear hG
    go_enter Tryz.func18, Tryz.ntmps18
    go_wp2; go_returns
    exact ⟨rfl, heap_setCell_same _ _ _ _ _ _ HG.out, Only.set (S := fun b => b = G) (Only.refl _ _) rfl _⟩
theorem wLast_any (G base : Nat) (A B : ByteArray) (v : Value) (L : List ByteArray) (w : World) (hG : w.heap[G]? = some (.cells #[.string A, .string B, v] 26)) (hr : w.ownsRow base 9 1 v L.length (txts L)) (hl : L.length ≤ maxLen) (hs : ∀ x ∈ L, x.size ≤ maxLen) :
    Calls Tryz.prog 17 #[.pointer (some ⟨G, 0, none⟩)] w fun e w' => (∃ x : ByteArray, e = .returned (.string x) ∧ x.size ≤ maxLen) ∧ Below w.heap.size w w' := by
  obtain ⟨a, c, hv⟩ := txtForm hr; subst hv; have k2 : w.cell? ⟨G, 2, none⟩ = some (.slice a L.length c) := cell_of_row w _ 2 _ _ _ hG
  by_cases h0 : L.length = 0
  · have i0 : ((L.length : Int) == 0) = true := by rw [beq_iff_eq]; omega
    clear hG hr
    go_enter Tryz.func17, Tryz.ntmps17
    go_wp2; go_ret
    exact ⟨⟨_, rfl, by decide⟩, Below.refl _ _⟩
  · obtain ⟨g, cap, hv, hgb, z⟩ := txtRow hr (i := L.length - 1) (by omega)
    injection hv with x1 x2 x3
    subst x1 x3
    have i0 : ((L.length : Int) == 0) = false := by rw [beq_eq_false_iff_ne]; omega
    have HX : Hid ((L[L.length - 1]'(by omega)).size ≤ maxLen) := hs _ (List.getElem_mem _)
    unfold maxLen at hl
    have i1 : (0 : Int) ≤ (L.length : Int) - 1 := by omega
    have i2 : (L.length : Int) - 1 < (L.length : Int) := by omega
    have i3 : ((L.length : Int) - 1).toNat = L.length - 1 := by omega
    have i4 : IntKind.i64.wrap ((L.length : Int) - 1) = (L.length : Int) - 1 := by rw [IntKind.wrap_i64]; omega
    generalize (L[L.length - 1]'(by omega)) = lx at *
    clear hG hr hs
    go_enter Tryz.func17, Tryz.ntmps17
    go_upto_region 3 with fail
    go_quiet (fail)
    go_wp2; go_ret
    exact ⟨⟨lx, rfl, HX.out⟩, ⟨rfl, rfl, rfl, Nat.le_refl _, fun _ _ => rfl⟩⟩
theorem wLetter_any (G base : Nat) (A B : ByteArray) (v : Value) (L : List ByteArray) (c : Int) (w : World) (hc : -9223372036854775808 ≤ c ∧ c ≤ 9223372036854775807) (hG : w.heap[G]? = some (.cells #[.string A, .string B, v] 26)) (hr : w.ownsRow base 9 1 v L.length (txts L)) (hl : L.length ≤ maxLen) (hs : ∀ x ∈ L, x.size ≤ maxLen) :
    Calls Tryz.prog 9 #[.pointer (some ⟨G, 0, none⟩), .int .i64 c] w fun e w' => (∃ x : ByteArray, e = .returned (.string x) ∧ x.size ≤ maxLen) ∧ Below w.heap.size w w' := by
  obtain ⟨a, cc, hv⟩ := txtForm hr; subst hv; have k2 : w.cell? ⟨G, 2, none⟩ = some (.slice a L.length cc) := cell_of_row w _ 2 _ _ _ hG
  by_cases h0 : L.length = 0
  · have i0 : ((L.length : Int) == 0) = true := by rw [beq_iff_eq]; omega
    clear hG hr
    go_enter Tryz.func9, Tryz.ntmps9
    go_wp2; go_ret
    exact ⟨⟨_, rfl, by decide⟩, Below.refl _ _⟩
  · unfold maxLen at hl
    obtain ⟨b0, b1⟩ := pickN_bd c (L.length : Int) (by omega)
    have c1 := fun w => lawPick_any c (L.length : Int) w hc.1 hc.2 (by omega) (by omega)
    obtain ⟨i, hi⟩ := Int.eq_ofNat_of_zero_le b0
    rw [hi] at c1 b1
    have hiL : i < L.length := by omega
    obtain ⟨g, cap, hv, hgb, z⟩ := txtRow hr hiL
    injection hv with x1 x2 x3
    subst x1 x3
    have i0 : ((L.length : Int) == 0) = false := by rw [beq_eq_false_iff_ne]; omega
    have HX : Hid (L[i].size ≤ maxLen) := hs _ (List.getElem_mem _)
    have i1 : (0 : Int) ≤ (i : Int) := by omega
    generalize L[i] = lx at *
    clear hG hr hs hi
    go_enter Tryz.func9, Tryz.ntmps9
    go_upto_region 3 with fail
    go_quiet (first | (go_at_call 20; exact Calls.quiet_of_same (c1 _)))
    go_wp2; go_ret
    exact ⟨⟨lx, rfl, HX.out⟩, ⟨rfl, rfl, rfl, Nat.le_refl _, fun _ _ => rfl⟩⟩
theorem lawHead_any (t : ByteArray) (w : World) (ht : t.size ≤ maxLen) :
    Calls Tryz.prog 16 #[.string t] w fun e w' => (∃ x : ByteArray, e = .returned (.string x) ∧ x.size ≤ maxLen) ∧ w' = w := by
  by_cases h : (t.size : Int) < 7
  · go_enter Tryz.func16, Tryz.ntmps16
    go_wp2; go_ret; exact ⟨⟨t, rfl, ht⟩, rfl⟩
  · have h7 : (7 : Int) ≤ (t.size : Int) := by omega
    have HT := hid ht; clear ht
    go_enter Tryz.func16, Tryz.ntmps16
    go_wp2; go_ret
    refine ⟨⟨_, rfl, ?_⟩, rfl⟩
    have := HT.out
    rw [ByteArray.size_extract]; omega
attribute [local go_sem] str_one_size
theorem poked_any (s : ByteArray) (n c : Int) (w : World) (hs : s.size ≤ maxLen) (hn : (-9223372036854775808 ≤ n ∧ n ≤ 9223372036854775807)) (hc : (-9223372036854775808 ≤ c ∧ c ≤ 9223372036854775807)) :
    Calls Tryz.prog 21 #[.string s, .int .i64 n, .int .i64 c] w fun e w' => (∃ x : ByteArray, e = .returned (.string x) ∧ x.size ≤ maxLen) ∧ Below w.heap.size w w' := by
  by_cases h0 : s.size = 0
  · have i0 : ((s.size : Int) == 0) = true := by rw [beq_iff_eq]; omega
    go_enter Tryz.func21, Tryz.ntmps21
    go_wp2; go_ret; exact ⟨⟨s, rfl, hs⟩, Below.refl _ _⟩
  · have i0 : ((s.size : Int) == 0) = false := by rw [beq_eq_false_iff_ne]; omega
    have HS := hid hs
    unfold maxLen at hs
    have c1 := fun w => lawPick_any n (s.size : Int) w hn.1 hn.2 (by omega) (by omega)
    obtain ⟨b0, b1⟩ := pickN_bd n (s.size : Int) (by omega)
    obtain ⟨i, hi⟩ := Int.eq_ofNat_of_zero_le b0
    rw [hi] at c1 b1
    have kc := conv1
    have i1 : (0 : Int) ≤ (i : Int) := by omega
    have i2 : (i : Int) + 1 ≤ (s.size : Int) := by omega
    have i3 : IntKind.i64.wrap ((i : Int) + 1) = (i : Int) + 1 := by rw [IntKind.wrap_i64]; omega
    have i4 : (0 : Int) ≤ (i : Int) + 1 := by omega
    have i5 : (i : Int) ≤ (s.size : Int) := by omega
    have hmin : min i s.size = i := by omega
    have r1 : ¬ 9223372036854775807 < i + 1 := by omega
    have r2 : ¬ 9223372036854775807 < i + 1 + (s.size - (i + 1)) := by omega
    have tn : ((i : Int) + 1).toNat = i + 1 := by omega
    have HI : Hid (i < s.size) := by
      show i < s.size
      omega
    have kd : ∀ (w : World) (a : Int), (convert 80 9 (.slice (some ⟨w.heap.size, 0, none⟩) 1 1)).run Tryz.prog (w.alloc (.cells #[.int .u8 a] 5)).drew = .ok (.string (str [UInt8.ofNat a.toNat])) (w.alloc (.cells #[.int .u8 a] 5)).drew := fun w a => conv1 w.drew a
    clear hi b0 hn hc
    go_enter Tryz.func21, Tryz.ntmps21
    go_upto_region 4 with (first | (go_at_call 20; (with_reducible refine (c1 _).mono ?_); rintro e w' ⟨rfl, hw⟩; rw [hw]; clear hw w'))
    go_region
    go_wp2; go_ret
    refine ⟨⟨_, rfl, ?_⟩, ?_⟩
    · have h1 := HS.out; have h2 := HI.out
      simp [ByteArray.size_append, ByteArray.size_extract, str_size]
      omega
    · repeat (first | exact Below.refl _ _ | apply Below.drew | (refine Below.alloc ?_ (by first | exact Nat.le_refl _ | (simp; done) | (simp; omega)) _))
structure PlanOk (d p : ByteArray) (k : Nat) (l : List RecM) (t : List UInt8) : Prop where
  disk : isDiskL d.data.toList = true
  size : d.size = k * 32
  k1 : 1 ≤ k
  k2 : k ≤ 40
  small : p.size ≤ maxLen
  recs : recsL p.data.toList k = some l
  done : ∀ kq, leftL d.data.toList l l.length kq = t
  mid : ∀ m kq, m ≤ l.length → ∃ r, repairR (leftL d.data.toList l m kq) = (r, 0)
theorem rec_plan (x : ByteArray) (r : List UInt8) (k : Nat) (hk : x.size = k * 32) (hk1 : 1 ≤ k) (hk2 : k ≤ 40) (hr : repairR x.data.toList = (r, 0)) (w : World) :
    Calls Tryz.prog 27 #[.string x] w fun e w' => e = .returned (.tuple #[.string (str (encL (changesR x.data.toList r 0 k))), .int .i64 0]) ∧ Below w.heap.size w w' := by
  have h := pawlRecover_any x w (by unfold maxLen; omega)
  rw [recPlan, hr, if_pos rfl, len_list, hk, show k * 32 / 32 = k by omega, changesL_enc] at h
  exact h
theorem left_size {d p : ByteArray} {k : Nat} {l : List RecM} {t : List UInt8} (h : PlanOk d p k l t) (m : Nat) (kq : List UInt8) (hm : m ≤ l.length) : (leftL d.data.toList l m kq).length = k * 32 :=
  leftL_length _ _ _ _ _ (by rw [len_list]; exact h.size) (fit_of_ok (recsF_ok _ _ _ _ h.recs).2) hm
theorem carry_plain (G : Nat) (A B : ByteArray) (v : Value) (kd who nn dr o0 o1 o2 o3 : Int) (tx ty : ByteArray) (p : ByteArray) (k : Nat) (l : List RecM) (t : List UInt8) (w : World) (hG : w.heap[G]? = some (.cells #[.string A, .string B, v] 26)) (hp : PlanOk (diskOf A B who) p k l t) (ht : t.length ≤ 100000) :
    Calls Tryz.prog 25 #[.pointer (some ⟨G, 0, none⟩), .agg #[.int .i64 kd, .int .i64 who, .int .i64 nn, .int .i64 dr, .int .i64 o0, .int .i64 o1, .int .i64 o2, .int .i64 o3, .string tx, .string ty, .bool false], .string p] w fun e w' => e = .returned (.tuple #[]) ∧ (∃ x : ByteArray, w'.heap[G]? = some (.cells #[.string (setA A who x), .string (setB B who x), v] 26) ∧ x.size ≤ maxLen) ∧ Only (fun b => b = G) w w' := by
  have hG0 := hG
  have hGlt : G < w.heap.size := by
    rcases Nat.lt_or_ge G w.heap.size with q | q
    · exact q
    · rw [Array.getElem?_eq_none (by exact q)] at hG; cases hG
  have c1 := fun w hG => wDisk_any G A B v who w hG
  have c2 := fun w => done_any (diskOf A B who) p (str t) l k ⟨#[]⟩ w hp.disk hp.size hp.k2 hp.small hp.recs (by decide) (by rw [str_toList]; exact hp.done)
  have c3 := fun w hG => wSet_any G A B (str t) v who w hG
  have HT : Hid ((str t).size ≤ maxLen) := by
    show _ ≤ _
    rw [str_size]; unfold maxLen; omega
  generalize str t = tt at *
  generalize diskOf A B who = dd at *
  clear hp hG0
  go_enter Tryz.func25, Tryz.ntmps25
  go_upto_region 1 with fail
  obtain ⟨ob, eob⟩ : ∃ ob, ob = Obj.cells #[.int .i64 kd, .int .i64 who, .int .i64 nn, .int .i64 dr, .int .i64 o0, .int .i64 o1, .int .i64 o2, .int .i64 o3, .string tx, .string ty, .bool false] 31 := ⟨_, rfl⟩
  rw [← eob]; have hO := heap_alloc_new w ob; have hGa : (w.alloc ob).heap[G]? = some (.cells #[.string A, .string B, v] 26) := (Below.heap_alloc _ _ _ hGlt).trans hG; have hWa : Below w.heap.size w (w.alloc ob) := (Below.refl _ _).alloc (Nat.le_refl _) _
  have hlt : w.heap.size < (w.alloc ob).heap.size := by simp
  generalize (w.alloc ob) = wa at hO hGa hWa hlt ⊢
  subst eob; have HO := hid hO; have HGa := hid hGa; have HWa := hid hWa; obtain ⟨_, k1, _, _, _, _, _, _, _, _, k10⟩ := cells11 hO; clear hO hGa hWa hG
  go_upto_region 4 with (first | (go_at_call 11; (with_reducible refine (c1 _ HGa.out).mono ?_); rintro e w' ⟨rfl, hw⟩; rw [hw]; clear hw w') | (go_at_call 61; (with_reducible refine (c2 _).mono ?_); rintro e w2 ⟨rfl, hb2⟩))
  have hG2 := (hb2.block G (by omega)).trans HGa.out
  have hO2 := (hb2.block w.heap.size hlt).trans HO.out; have z1 : w2.cell? ⟨w.heap.size, 1, none⟩ = some (.int .i64 who) := cell_of_row w2 _ 1 _ _ _ hO2; have HG2 := hid hG2
  have HN : Hid (Only (fun b => b = G) w w2) := Only.of_below (below_tr HWa.out hb2)
  clear k1 k10 hb2 hG2 hO2 c1 c2
  go_wp2_with (first | (go_at_call 18; (with_reducible refine (c3 _ HG2.out).mono ?_); rintro e w3 ⟨rfl, hG3, hN3⟩; have HG3 := hid hG3; have HN3 := hid hN3; clear hG3 hN3))
  go_returns; exact ⟨rfl, ⟨_, HG3.out, HT.out⟩, HN.out.trans HN3.out⟩
theorem carry_cut (G : Nat) (A B : ByteArray) (v : Value) (kd who nn dr o0 o1 o2 o3 : Int) (tx ty : ByteArray) (p : ByteArray) (k : Nat) (l : List RecM) (t : List UInt8) (w : World) (hG : w.heap[G]? = some (.cells #[.string A, .string B, v] 26)) (hp : PlanOk (diskOf A B who) p k l t) (hn : (-9223372036854775808 ≤ nn ∧ nn ≤ 9223372036854775807)) (hy : ty.size ≤ maxLen) :
    Calls Tryz.prog 25 #[.pointer (some ⟨G, 0, none⟩), .agg #[.int .i64 kd, .int .i64 who, .int .i64 nn, .int .i64 dr, .int .i64 o0, .int .i64 o1, .int .i64 o2, .int .i64 o3, .string tx, .string ty, .bool true], .string p] w fun e w' => e = .returned (.tuple #[]) ∧ (∃ x : ByteArray, w'.heap[G]? = some (.cells #[.string (setA A who x), .string (setB B who x), v] 26) ∧ x.size ≤ maxLen) ∧ Only (fun b => b = G) w w' := by
  have hG0 := hG
  have hGlt : G < w.heap.size := by
    rcases Nat.lt_or_ge G w.heap.size with q | q
    · exact q
    · rw [Array.getElem?_eq_none (by exact q)] at hG; cases hG
  have c1 := fun w hG => wDisk_any G A B v who w hG
  have c2 := fun w => failed_any (diskOf A B who) p l k nn ty w hp.disk hp.size hp.k2 hp.small hp.recs hn.1 hn.2 hy
  have hmid : ∀ m kq, m ≤ l.length → ∃ (y pl z : ByteArray), y = str (leftL (diskOf A B who).data.toList l m kq) ∧ (∀ w, Calls Tryz.prog 27 #[.string y] w fun e w' => e = .returned (.tuple #[.string pl, .int .i64 0]) ∧ Below w.heap.size w w') ∧ (∀ w, Calls Tryz.prog 61 #[.string y, .string pl, .string ⟨#[]⟩] w fun e w' => e = .returned (.tuple #[.string z, .bool true]) ∧ Below w.heap.size w w') ∧ z.size ≤ maxLen := by
    intro m kq hm
    obtain ⟨r, hr⟩ := hp.mid m kq hm; have hsz := left_size hp m kq hm; have hk1 := hp.k1; have hk2 := hp.k2
    generalize leftL (diskOf A B who).data.toList l m kq = y at *
    obtain ⟨s1, s2, s3⟩ := rec_safe y r k hsz hk1 hk2 hr
    have hy1 : (str y).size = k * 32 := by rw [str_size]; exact hsz
    obtain ⟨q1, q2⟩ := recsF_ok _ _ _ _ s1
    have hpl : (str (encL (changesR y r 0 k))).size ≤ maxLen := by
      rw [str_size]
      have := encL_len k _ q2
      unfold maxLen; omega
    have hrl : r.length = k * 32 := by
      rw [← s2 []]
      exact leftL_length _ _ _ _ _ hsz (fit_of_ok q2) (Nat.le_refl _)
    refine ⟨str y, str (encL (changesR y r 0 k)), str r, rfl, fun w => ?_, fun w => ?_, by rw [str_size]; unfold maxLen; omega⟩
    · have := rec_plan (str y) r k hy1 hk1 hk2 (by rw [str_toList]; exact hr) w
      rw [str_toList] at this
      exact this
    · exact done_any (str y) (str (encL (changesR y r 0 k))) (str r) (changesR y r 0 k) k ⟨#[]⟩ w (by rw [str_toList]; exact disk_of_len y k hsz hk1 hk2) hy1 hk2 hpl (by rw [str_toList]; exact s1) (by decide) (by rw [str_toList, str_toList]; exact s2)
  have c3 := fun x w hG => wSet_any G A B x v who w hG
  generalize diskOf A B who = dd at *
  clear hp hG0
  go_enter Tryz.func25, Tryz.ntmps25
  go_upto_region 1 with fail
  obtain ⟨ob, eob⟩ : ∃ ob, ob = Obj.cells #[.int .i64 kd, .int .i64 who, .int .i64 nn, .int .i64 dr, .int .i64 o0, .int .i64 o1, .int .i64 o2, .int .i64 o3, .string tx, .string ty, .bool true] 31 := ⟨_, rfl⟩
  rw [← eob]; have hO := heap_alloc_new w ob; have hGa : (w.alloc ob).heap[G]? = some (.cells #[.string A, .string B, v] 26) := (Below.heap_alloc _ _ _ hGlt).trans hG; have hWa : Below w.heap.size w (w.alloc ob) := (Below.refl _ _).alloc (Nat.le_refl _) _
  have hlt : w.heap.size < (w.alloc ob).heap.size := by simp
  generalize (w.alloc ob) = wa at hO hGa hWa hlt ⊢
  subst eob; have HO := hid hO; have HGa := hid hGa; have HWa := hid hWa; obtain ⟨_, k1, k2, _, _, _, _, _, _, k9, k10⟩ := cells11 hO; clear hO hGa hWa hG
  go_upto_region 6 with (first | (go_at_call 11; (with_reducible refine (c1 _ HGa.out).mono ?_); rintro e w' ⟨rfl, hw⟩; rw [hw]; clear hw w') | (go_at_call 62; (with_reducible refine (c2 _).mono ?_); rintro e w2 ⟨⟨m, kq, hm, rfl⟩, hb2⟩))
  obtain ⟨y, pl, z, hy0, cR, cD, hz⟩ := hmid m kq hm; rw [← hy0]; have hsz2 := hb2.size
  have HG2 := hid ((hb2.block G (by omega)).trans HGa.out)
  have HO2 := hid ((hb2.block w.heap.size hlt).trans HO.out)
  have HN : Hid (Only (fun b => b = G) w w2) := Only.of_below (below_tr HWa.out hb2)
  have HZ := hid hz; clear k1 k2 k9 k10 hb2 c1 c2 hmid hy0 hm hz
  go_upto_region 8 with (first | (go_at_call 27; (with_reducible refine (cR _).mono ?_); rintro e w3 ⟨rfl, hb3⟩) | (go_at_call 61; (with_reducible refine (cD _).mono ?_); rintro e w4 ⟨rfl, hb4⟩))
  have hsz3 := hb3.size
  have HG4 := hid ((hb4.block G (by omega)).trans ((hb3.block G (by omega)).trans HG2.out))
  have hO4 := (hb4.block w.heap.size (by omega)).trans ((hb3.block w.heap.size (by omega)).trans HO2.out)
  have z1 : w4.cell? ⟨w.heap.size, 1, none⟩ = some (.int .i64 who) := cell_of_row w4 _ 1 _ _ _ hO4
  have HN4 : Hid (Only (fun b => b = G) w w4) := (HN.out.then hb3).then hb4
  clear hO4 hb3 hb4 cR cD
  go_wp2_with (first | (go_at_call 18; (with_reducible refine (c3 _ _ HG4.out).mono ?_); rintro e w5 ⟨rfl, hG5, hN5⟩; have HG5 := hid hG5; have HN5 := hid hN5; clear hG5 hN5))
  go_returns; exact ⟨rfl, ⟨_, HG5.out, HZ.out⟩, HN4.out.trans HN5.out⟩
end Go.Proofs.YtabpkohcimiceabGreat
namespace Go.Proofs.YtabpkohcimiceabGreat
set_option maxRecDepth 100000
set_option maxHeartbeats 1000000
open Go.RowKit
set_option linter.unusedVariables false
set_option linter.unusedSimpArgs false
theorem Tryz.infoStr : (Tryz.prog.info? 9).map (fun i => (i.zero, i.size, i.bytes)) = some (some (.string ⟨#[]⟩), 1, 16) := by kernel_rfl
theorem carry_any (G : Nat) (A B : ByteArray) (v : Value) (kd who nn dr o0 o1 o2 o3 : Int) (tx ty : ByteArray) (cut : Bool) (p : ByteArray) (k : Nat) (l : List RecM) (t : List UInt8) (w : World) (hG : w.heap[G]? = some (.cells #[.string A, .string B, v] 26)) (hp : PlanOk (diskOf A B who) p k l t) (ht : t.length ≤ 100000) (hn : (-9223372036854775808 ≤ nn ∧ nn ≤ 9223372036854775807)) (hy : ty.size ≤ maxLen) :
    Calls Tryz.prog 25 #[.pointer (some ⟨G, 0, none⟩), .agg #[.int .i64 kd, .int .i64 who, .int .i64 nn, .int .i64 dr, .int .i64 o0, .int .i64 o1, .int .i64 o2, .int .i64 o3, .string tx, .string ty, .bool cut], .string p] w fun e w' => e = .returned (.tuple #[]) ∧ (∃ x : ByteArray, w'.heap[G]? = some (.cells #[.string (setA A who x), .string (setB B who x), v] 26) ∧ x.size ≤ maxLen) ∧ Only (fun b => b = G) w w' := by
  cases cut with
  | true => exact carry_cut G A B v kd who nn dr o0 o1 o2 o3 tx ty p k l t w hG hp hn hy
  | false => exact carry_plain G A B v kd who nn dr o0 o1 o2 o3 tx ty p k l t w hG hp ht
structure WAt (G base : Nat) (A B : ByteArray) (v : Value) (L : List ByteArray) (w : World) : Prop where
  blk : w.heap[G]? = some (.cells #[.string A, .string B, v] 26)
  a : A.size ≤ maxLen
  b : B.size ≤ maxLen
  row : w.ownsRow base 9 1 v L.length (txts L)
  txt : ∀ x ∈ L, x.size ≤ maxLen
theorem WAt.lt {G base : Nat} {A B : ByteArray} {v : Value} {L : List ByteArray} {w : World} (h : WAt G base A B v L w) : G < w.heap.size := by
  have hG := h.blk
  rcases Nat.lt_or_ge G w.heap.size with q | q
  · exact q
  · rw [Array.getElem?_eq_none (by exact q)] at hG; cases hG
theorem WAt.next {G base : Nat} {A B : ByteArray} {v : Value} {L : List ByteArray} {w w' : World} (h : WAt G base A B v L w) (hb : Below w.heap.size w w') : WAt G base A B v L w' :=
  ⟨(hb.block G h.lt).trans h.blk, h.a, h.b, ownsRow_below h.row hb, h.txt⟩
theorem disk_le {A B : ByteArray} (who : Int) (ha : A.size ≤ maxLen) (hb : B.size ≤ maxLen) : (diskOf A B who).size ≤ maxLen := by
  rw [diskOf]; split; exact hb; exact ha
theorem setA_le {A x : ByteArray} (who : Int) (ha : A.size ≤ maxLen) (hx : x.size ≤ maxLen) : (setA A who x).size ≤ maxLen := by
  rw [setA]; split; exact ha; exact hx
theorem setB_le {B x : ByteArray} (who : Int) (hb : B.size ≤ maxLen) (hx : x.size ≤ maxLen) : (setB B who x).size ≤ maxLen := by
  rw [setB]; split; exact hx; exact hb
def WOut (G base : Nat) (v : Value) (L : List ByteArray) (w w' : World) : Prop :=
  (∃ (A' B' : ByteArray) (v' : Value) (L' : List ByteArray), WAt G base A' B' v' L' w' ∧ L'.length ≤ L.length + 1) ∧ Only (fun b => b = G ∨ v.ownBlock = some b) w w'
theorem WOut.set {G base : Nat} {A B x : ByteArray} {v : Value} {L : List ByteArray} {w w1 : World} (who : Int) (h : WAt G base A B v L w) (hGb : G < base) (h1 : Only (fun b => b = G) w w1) (hG : w1.heap[G]? = some (.cells #[.string (setA A who x), .string (setB B who x), v] 26)) (hx : x.size ≤ maxLen) : WOut G base v L w w1 := by
  refine ⟨⟨setA A who x, setB B who x, v, L, ⟨hG, setA_le who h.a hx, setB_le who h.b hx, h1.own h.row (fun k hk q => ?_), h.txt⟩, Nat.le_succ _⟩, h1.mono (fun k _ q => .inl q)⟩
  have := (h.row.lt k hk).1
  omega
theorem WOut.same {G base : Nat} {A B : ByteArray} {v : Value} {L : List ByteArray} {w w1 : World} (h : WAt G base A B v L w) (hb : Below w.heap.size w w1) : WOut G base v L w w1 :=
  ⟨⟨A, B, v, L, h.next hb, Nat.le_succ _⟩, Only.of_below hb⟩
theorem lawNum_any (e : Int) (w : World) : Calls Tryz.prog 24 #[.int .i64 e] w fun x w' => x = .returned (.int .i64 e) ∧ w' = w := by
  go_enter Tryz.func24, Tryz.ntmps24
  go_wp2; go_ret; exact ⟨rfl, rfl⟩
theorem grown_blk {X w2 : World} {v : Value} {base n size : Nat} {e : TypeId} {xs : List Value} (hown : X.ownsRow base e size v n xs) (hg : X.grownBy w2 v.ownBlock) {b : Nat} (hb : b < base) (hlt : b < X.heap.size) : w2.heap[b]? = X.heap[b]? := by
  obtain ⟨_, _, _, _, g5⟩ := hg
  exact g5 b hlt (fun q => by have := (hown.lt b q.symm).1; omega)
theorem recv_planOk (d t : ByteArray) (draw : Int) (h : recvErr d.data.toList t.data.toList draw = 0) : ∃ k l, PlanOk d (str (recvPlan d.data.toList t.data.toList draw)) k l (recvTo d.data.toList t.data.toList draw) ∧ (recvTo d.data.toList t.data.toList draw).length ≤ 100000 := by
  obtain ⟨k, hD, hk, hk1, hk2, hto, hpl, r1, r2, r3⟩ := recv_safe _ _ _ h; obtain ⟨q1, q2⟩ := recsF_ok _ _ _ _ r1; have hl := encL_bd k _ q2
  have hlen : (recvTo d.data.toList t.data.toList draw).length = k * 32 := by
    rw [← r2 []]
    exact leftL_length _ _ _ _ _ hk (fit_of_ok q2) (Nat.le_refl _)
  refine ⟨k, _, ⟨hD, by rw [← len_list]; exact hk, hk1, hk2, ?_, by rw [str_toList]; exact r1, r2, fun m kq hm => ?_⟩, by omega⟩
  · rw [str_size, hpl]; unfold maxLen; omega
  · rcases r3 m kq hm with q | q
    · exact ⟨_, q⟩
    · exact ⟨_, q⟩
theorem send_planOk (d t : ByteArray) (h : sendErr d.data.toList t.data.toList = 0) : ∃ k l, PlanOk d (str (sendPlan d.data.toList t.data.toList)) k l (sendTo d.data.toList t.data.toList) ∧ (sendTo d.data.toList t.data.toList).length ≤ 100000 := by
  obtain ⟨k, hD, hk, hk1, hk2, hto, hpl, r1, r2, r3⟩ := send_safe _ _ h; obtain ⟨q1, q2⟩ := recsF_ok _ _ _ _ r1; have hl := encL_bd k _ q2
  have hlen : (sendTo d.data.toList t.data.toList).length = k * 32 := by
    rw [← r2 []]
    exact leftL_length _ _ _ _ _ hk (fit_of_ok q2) (Nat.le_refl _)
  refine ⟨k, _, ⟨hD, by rw [← len_list]; exact hk, hk1, hk2, ?_, by rw [str_toList]; exact r1, r2, fun m kq hm => ?_⟩, by omega⟩
  · rw [str_size, hpl]; unfold maxLen; omega
  · rcases r3 m kq hm with q | q
    · exact ⟨_, q⟩
    · exact ⟨_, q⟩
theorem takes_any (G base : Nat) (A B : ByteArray) (v : Value) (L : List ByteArray) (kd who nn dr o0 o1 o2 o3 : Int) (tx ty : ByteArray) (cut : Bool) (lt : ByteArray) (w : World) (hW : WAt G base A B v L w) (hGb : G < base) (hn : (Lit.int .i64 nn).wf = true) (hdr : (Lit.int .i64 dr).wf = true) (hx : tx.size ≤ maxLen) (hy : ty.size ≤ maxLen) (hl : lt.size ≤ maxLen) :
    Calls Tryz.prog 8 #[.pointer (some ⟨G, 0, none⟩), .agg #[.int .i64 kd, .int .i64 who, .int .i64 nn, .int .i64 dr, .int .i64 o0, .int .i64 o1, .int .i64 o2, .int .i64 o3, .string tx, .string ty, .bool cut], .string lt] w fun e w' => e = .returned (.bool true) ∧ WOut G base v L w w' := by
  have hdd := disk_le who hW.a hW.b; have hGlt := hW.lt
  have c1 := fun w hG => wDisk_any G A B v who w hG
  have c2 := fun w => receives_walk (diskOf A B who) lt dr nn ty hdd hl hdr hn hy w
  have c3 := fun w => pawlReceive_any (diskOf A B who) lt dr w hdd hl
  have HWW := hid hW
  by_cases he : recvErr (diskOf A B who).data.toList lt.data.toList dr = 0
  · obtain ⟨k, l, hp, ht⟩ := recv_planOk (diskOf A B who) lt dr he
    have c4 := fun w hG => carry_any G A B v kd who nn dr o0 o1 o2 o3 tx ty cut (str (recvPlan (diskOf A B who).data.toList lt.data.toList dr)) k l _ w hG hp ht (wf_i64 hn) hy
    rw [he] at c3
    generalize str (recvPlan (diskOf A B who).data.toList lt.data.toList dr) = pl at *
    generalize str (recvTxt (diskOf A B who).data.toList lt.data.toList dr) = rt at *
    generalize diskOf A B who = dd at *
    clear he hp ht hdd
    go_enter Tryz.func8, Tryz.ntmps8
    go_upto_region 1 with fail
    obtain ⟨ob, eob⟩ : ∃ ob, ob = Obj.cells #[.int .i64 kd, .int .i64 who, .int .i64 nn, .int .i64 dr, .int .i64 o0, .int .i64 o1, .int .i64 o2, .int .i64 o3, .string tx, .string ty, .bool cut] 31 := ⟨_, rfl⟩
    rw [← eob]; have hO := heap_alloc_new w ob; have hWa : Below w.heap.size w (w.alloc ob) := (Below.refl _ _).alloc (Nat.le_refl _) _
    have hlt : w.heap.size < (w.alloc ob).heap.size := by simp
    generalize (w.alloc ob) = wa at hO hWa hlt ⊢
    subst eob; have HO := hid hO; have HWa := hid hWa; have HA := hid (hW.next hWa); obtain ⟨_, k1, k2, k3, _, _, _, _, _, k9, _⟩ := cells11 hO; clear hO hWa
    go_upto_region 5 with (first | (go_at_call 11; (with_reducible refine (c1 _ HA.out.blk).mono ?_); rintro e w' ⟨rfl, hw⟩; rw [hw]; clear hw w') | (go_at_call 30; (with_reducible refine (c2 _).mono ?_); rintro e w2 ⟨rfl, hb2⟩))
    have HA2 := hid (HA.out.next hb2)
    have hO2 := (hb2.block w.heap.size (by omega)).trans HO.out
    have HW2 := hid (below_tr HWa.out hb2); have hs2 := hb2.size; clear k1 k2 k3 k9 c1 c2 hb2; have k3 : w2.cell? ⟨w.heap.size, 3, none⟩ = some (.int .i64 dr) := cell_of_row w2 _ 3 _ _ _ hO2; have HO2 := hid hO2; clear hO2
    go_upto_region 7 with (first | (go_at_call 31; (with_reducible refine (c3 _).mono ?_); rintro e w3 ⟨rfl, hb3⟩) | (go_at_call 24; go_must (with_reducible refine (lawNum_any _ _).mono ?_); rintro e w' ⟨rfl, hw⟩; rw [hw]; clear hw w'))
    have HA3 := hid (HA2.out.next hb3)
    have hO3 := (hb3.block w.heap.size (by omega)).trans HO2.out
    have HW3 := hid (below_tr HW2.out hb3); have hs3 := hb3.size; clear k3 c3 hb3; obtain ⟨k0, k1, k2, k3, k4, k5, k6, k7, k8, k9, k10⟩ := cells11 hO3; have HO3 := hid hO3; clear hO3
    go_wp2_with (first | (go_at_call 25; (with_reducible refine (c4 _ HA3.out.blk).mono ?_); rintro e w4 ⟨rfl, ⟨x, hG4, hx⟩, hN4⟩; have HG4 := hid hG4; have HX := hid hx; have HN4 := hid hN4; clear hG4 hx hN4))
    go_ret; exact ⟨rfl, WOut.set who HWW.out hGb ((Only.of_below HW3.out).trans HN4.out) HG4.out HX.out⟩
  · have hb0 := recvErr_bd (diskOf A B who).data.toList lt.data.toList dr
    generalize recvErr (diskOf A B who).data.toList lt.data.toList dr = E at *
    have hE : (E == 0) = false := by rw [beq_eq_false_iff_ne]; exact he
    generalize str (recvPlan (diskOf A B who).data.toList lt.data.toList dr) = pl at *
    generalize str (recvTxt (diskOf A B who).data.toList lt.data.toList dr) = rt at *
    generalize diskOf A B who = dd at *
    clear hdd
    go_enter Tryz.func8, Tryz.ntmps8
    go_upto_region 1 with fail
    obtain ⟨ob, eob⟩ : ∃ ob, ob = Obj.cells #[.int .i64 kd, .int .i64 who, .int .i64 nn, .int .i64 dr, .int .i64 o0, .int .i64 o1, .int .i64 o2, .int .i64 o3, .string tx, .string ty, .bool cut] 31 := ⟨_, rfl⟩
    rw [← eob]; have hO := heap_alloc_new w ob; have hWa : Below w.heap.size w (w.alloc ob) := (Below.refl _ _).alloc (Nat.le_refl _) _
    have hlt : w.heap.size < (w.alloc ob).heap.size := by simp
    generalize (w.alloc ob) = wa at hO hWa hlt ⊢
    subst eob; have HO := hid hO; have HWa := hid hWa; have HA := hid (hW.next hWa); obtain ⟨_, k1, k2, k3, _, _, _, _, _, k9, _⟩ := cells11 hO; clear hO hWa
    go_upto_region 5 with (first | (go_at_call 11; (with_reducible refine (c1 _ HA.out.blk).mono ?_); rintro e w' ⟨rfl, hw⟩; rw [hw]; clear hw w') | (go_at_call 30; (with_reducible refine (c2 _).mono ?_); rintro e w2 ⟨rfl, hb2⟩))
    have HA2 := hid (HA.out.next hb2)
    have hO2 := (hb2.block w.heap.size (by omega)).trans HO.out
    have HW2 := hid (below_tr HWa.out hb2); have hs2 := hb2.size; clear k1 k2 k3 k9 c1 c2 hb2; have k3 : w2.cell? ⟨w.heap.size, 3, none⟩ = some (.int .i64 dr) := cell_of_row w2 _ 3 _ _ _ hO2; have HO2 := hid hO2; clear hO2
    go_wp2_with (first | (go_at_call 31; (with_reducible refine (c3 _).mono ?_); rintro e w3 ⟨rfl, hb3⟩) | (go_at_call 24; go_must (with_reducible refine (lawNum_any _ _).mono ?_); rintro e w' ⟨rfl, hw⟩; rw [hw]; clear hw w'))
    go_ret; exact ⟨rfl, WOut.same HWW.out (below_tr HW2.out hb3)⟩
theorem wWrites_any (G base : Nat) (A B : ByteArray) (v : Value) (L : List ByteArray) (kd who nn dr o0 o1 o2 o3 : Int) (tx ty : ByteArray) (cut : Bool) (w : World) (hW : WAt G base A B v L w) (hGb : G < base) (hbase : base ≤ w.heap.size) (hLb : (L.length + 1) * 16 ≤ 140737488355328) (hn : (Lit.int .i64 nn).wf = true) (hdr : (Lit.int .i64 dr).wf = true) (hx : tx.size ≤ maxLen) (hy : ty.size ≤ maxLen) :
    Calls Tryz.prog 7 #[.pointer (some ⟨G, 0, none⟩), .agg #[.int .i64 kd, .int .i64 who, .int .i64 nn, .int .i64 dr, .int .i64 o0, .int .i64 o1, .int .i64 o2, .int .i64 o3, .string tx, .string ty, .bool cut]] w fun e w' => e = .returned (.bool true) ∧ WOut G base v L w w' := by
  obtain ⟨i0, hi0, hz0, hz1, hz2⟩ := info_parts Tryz.infoStr; obtain ⟨xa, xc, hxv⟩ := txtForm hW.row; subst hxv; have hdd := disk_le who hW.a hW.b; have hGlt := hW.lt
  have c1 := fun w hG => wDisk_any G A B (.slice xa L.length xc) who w hG
  have c2 := fun w => sends_walk (diskOf A B who) tx nn ty hdd hx hn hy w
  have c3 := fun w => pawlSend_any (diskOf A B who) tx w hdd
  have HWW := hid hW
  by_cases he : sendErr (diskOf A B who).data.toList tx.data.toList = 0
  · obtain ⟨k, l, hp, ht⟩ := send_planOk (diskOf A B who) tx he
    have c4 := fun w hG => carry_any G A B (.slice xa L.length xc) kd who nn dr o0 o1 o2 o3 tx ty cut (str (sendPlan (diskOf A B who).data.toList tx.data.toList)) k l _ w hG hp ht (wf_i64 hn) hy
    have hlt0 : (str (sendLet (diskOf A B who).data.toList tx.data.toList)).size ≤ maxLen := by
      obtain ⟨_, h40, _⟩ := send_ok _ _ he; rw [str_size, sendLet, if_pos he, letL, List.length_append, headB_length, sealL_length]
      unfold maxLen; omega
    rw [he] at c3
    generalize str (sendPlan (diskOf A B who).data.toList tx.data.toList) = pl at *
    generalize str (sendLet (diskOf A B who).data.toList tx.data.toList) = lx at *
    generalize diskOf A B who = dd at *
    have HLX := hid hlt0; clear he hp ht hdd hlt0
    go_enter Tryz.func7, Tryz.ntmps7
    go_upto_region 1 with fail
    obtain ⟨ob, eob⟩ : ∃ ob, ob = Obj.cells #[.int .i64 kd, .int .i64 who, .int .i64 nn, .int .i64 dr, .int .i64 o0, .int .i64 o1, .int .i64 o2, .int .i64 o3, .string tx, .string ty, .bool cut] 31 := ⟨_, rfl⟩
    rw [← eob]; have hO := heap_alloc_new w ob; have hWa : Below w.heap.size w (w.alloc ob) := (Below.refl _ _).alloc (Nat.le_refl _) _
    have hlt : w.heap.size < (w.alloc ob).heap.size := by simp
    generalize (w.alloc ob) = wa at hO hWa hlt ⊢
    subst eob; have HO := hid hO; have HWa := hid hWa; have HA := hid (hW.next hWa); obtain ⟨_, k1, k2, _, _, _, _, _, k8, k9, _⟩ := cells11 hO; clear hO hWa
    go_upto_region 5 with (first | (go_at_call 11; (with_reducible refine (c1 _ HA.out.blk).mono ?_); rintro e w' ⟨rfl, hw⟩; rw [hw]; clear hw w') | (go_at_call 28; (with_reducible refine (c2 _).mono ?_); rintro e w2 ⟨rfl, hb2⟩))
    have HA2 := hid (HA.out.next hb2)
    have hO2 := (hb2.block w.heap.size (by omega)).trans HO.out
    have HW2 := hid (below_tr HWa.out hb2); have hs2 := hb2.size; clear k1 k2 k8 k9 c1 c2 hb2; have k8 : w2.cell? ⟨w.heap.size, 8, none⟩ = some (.string tx) := cell_of_row w2 _ 8 _ _ _ hO2; have HO2 := hid hO2; clear hO2
    go_upto_region 7 with (first | (go_at_call 29; (with_reducible refine (c3 _).mono ?_); rintro e w3 ⟨rfl, hb3⟩) | (go_at_call 24; go_must (with_reducible refine (lawNum_any _ _).mono ?_); rintro e w' ⟨rfl, hw⟩; rw [hw]; clear hw w'))
    have HA3 := hid (HA2.out.next hb3)
    have hO3 := (hb3.block w.heap.size (by omega)).trans HO2.out
    have HW3 := hid (below_tr HW2.out hb3); have hs3 := hb3.size; clear k8 c3 hb3; obtain ⟨k0, k1, k2, k3, k4, k5, k6, k7, k8, k9, k10⟩ := cells11 hO3; have HO3 := hid hO3; clear hO3
    go_upto_region 8 with (first | (go_at_call 25; (with_reducible refine (c4 _ HA3.out.blk).mono ?_); rintro e w4 ⟨rfl, ⟨x, hG4, hx4⟩, hN4⟩))
    have hsz4 := hN4.size
    have hO4 := (hN4.block w.heap.size (by omega) (fun q => by omega)).trans HO3.out
    have hr4 := hN4.own HA3.out.row (fun q hq h => by have := (HA3.out.row.lt q hq).1; omega)
    have HN4 := hid ((Only.of_below HW3.out).trans hN4); have HX := hid hx4; have z10 : w4.cell? ⟨w.heap.size, 10, none⟩ = some (.bool cut) := cell_of_row w4 _ 10 _ _ _ hO4; have z2 : w4.cell? ⟨G, 2, none⟩ = some (.slice xa L.length xc) := cell_of_row w4 _ 2 _ _ _ hG4; have HG4 := hid hG4; clear k0 k1 k2 k3 k4 k5 k6 k7 k8 k9 k10 hN4 hO4 c4 hx4
    cases cut with
    | true =>
      clear hr4; go_wp2; go_ret; exact ⟨rfl, WOut.set who HWW.out hGb HN4.out HG4.out HX.out⟩
    | false =>
      clear hG4
      go_upto_region 10 with (first | (at_builtin; go_loud (refine wpList_append_lies _ rfl (.tmp 46) (.tmp 48) _ rfl base 9 i0 _ 1 16 Tryz.underlying24 hi0 hz0 hz1 hz2 rfl (by omega) _ L.length (txts L) rfl (hr4.alloc _) ⟨w4.heap.size, 0, none⟩ 1 1 [.string lx] rfl rfl (World.news_of_block (cs := #[.string lx]) (t := 9) (fr := (0, 0)) (heap_alloc_new _ _)) (by simp [Value.oneCell']) (by omega) (by unfold maxLen; omega) (by omega) (by simp; omega) (w4.heap.size + 1) (by simp) ?_); intro g2 cap2 w5 hown5 hgrow hat hlt5; have hG5 := (grown_blk (hr4.alloc _) hgrow hGb (by simp; omega)).trans ((Below.heap_alloc _ _ _ (by omega)).trans HG4.out); have y2 : w5.cell? ⟨G, 2, none⟩ = some (.slice xa L.length xc) := cell_of_row w5 _ 2 _ _ _ hG5; have fG : ∀ j, w5.frozen? ⟨G, j, none⟩ = false := fun j => frozen_of_row w5 _ j _ _ hG5; have HG5 := hid hG5; clear hG5))
      have HN5 : Hid (Only (fun b => b = G ∨ (Value.slice xa L.length xc).ownBlock = some b) w w5) := ((HN4.out.mono (fun k _ q => .inl q)).then ((Below.refl _ _).alloc (Nat.le_refl _) _)).grown hgrow (fun k hk _ => .inr hk)
      clear y2 fG z2 z10; have hB6 : (w5.setCell ⟨G, 2, none⟩ (.slice (some ⟨g2, 0, none⟩) (L.length + 1) cap2)).heap[G]? = some (.cells #[.string (setA A who x), .string (setB B who x), .slice (some ⟨g2, 0, none⟩) (L.length + 1) cap2] 26) := heap_setCell_same _ _ _ _ _ _ HG5.out
      have hR6 : (w5.setCell ⟨G, 2, none⟩ (.slice (some ⟨g2, 0, none⟩) (L.length + 1) cap2)).ownsRow base 9 1 (.slice (some ⟨g2, 0, none⟩) (L.length + 1) cap2) (L.length + 1) (txts L ++ [.string lx]) := ownsRow_setCell_below hown5 (by exact hGb) _
      have hN6 : Only (fun b => b = G ∨ (Value.slice xa L.length xc).ownBlock = some b) w (w5.setCell ⟨G, 2, none⟩ (.slice (some ⟨g2, 0, none⟩) (L.length + 1) cap2)) := HN5.out.set (b := G) (.inl rfl) _
      generalize (w5.setCell ⟨G, 2, none⟩ (.slice (some ⟨g2, 0, none⟩) (L.length + 1) cap2)) = w6 at hB6 hR6 hN6 ⊢
      have HB6 := hid hB6; have HR6 := hid hR6; have HN6 := hid hN6; clear hB6 hR6 hN6 hown5 hgrow hat hr4; go_wp2; go_ret
      refine ⟨rfl, ⟨setA A who x, setB B who x, _, L ++ [lx], ⟨HB6.out, setA_le who HWW.out.a HX.out, setB_le who HWW.out.b HX.out, ?_, fun y hy => ?_⟩, by simp⟩, HN6.out⟩
      · have e1 : txts (L ++ [lx]) = txts L ++ [.string lx] := by rw [txts, List.map_append]; rfl
        rw [e1, List.length_append]; exact HR6.out
      · rcases List.mem_append.1 hy with q | q
        · exact HWW.out.txt y q
        · rw [List.mem_singleton.1 q]; exact HLX.out
  · generalize sendErr (diskOf A B who).data.toList tx.data.toList = E at *
    have hE : (E == 0) = false := by rw [beq_eq_false_iff_ne]; exact he
    generalize str (sendPlan (diskOf A B who).data.toList tx.data.toList) = pl at *
    generalize str (sendLet (diskOf A B who).data.toList tx.data.toList) = lx at *
    generalize diskOf A B who = dd at *
    clear hdd
    go_enter Tryz.func7, Tryz.ntmps7
    go_upto_region 1 with fail
    obtain ⟨ob, eob⟩ : ∃ ob, ob = Obj.cells #[.int .i64 kd, .int .i64 who, .int .i64 nn, .int .i64 dr, .int .i64 o0, .int .i64 o1, .int .i64 o2, .int .i64 o3, .string tx, .string ty, .bool cut] 31 := ⟨_, rfl⟩
    rw [← eob]; have hO := heap_alloc_new w ob; have hWa : Below w.heap.size w (w.alloc ob) := (Below.refl _ _).alloc (Nat.le_refl _) _
    have hlt : w.heap.size < (w.alloc ob).heap.size := by simp
    generalize (w.alloc ob) = wa at hO hWa hlt ⊢
    subst eob; have HO := hid hO; have HWa := hid hWa; have HA := hid (hW.next hWa); obtain ⟨_, k1, k2, _, _, _, _, _, k8, k9, _⟩ := cells11 hO; clear hO hWa
    go_upto_region 5 with (first | (go_at_call 11; (with_reducible refine (c1 _ HA.out.blk).mono ?_); rintro e w' ⟨rfl, hw⟩; rw [hw]; clear hw w') | (go_at_call 28; (with_reducible refine (c2 _).mono ?_); rintro e w2 ⟨rfl, hb2⟩))
    have HA2 := hid (HA.out.next hb2)
    have hO2 := (hb2.block w.heap.size (by omega)).trans HO.out
    have HW2 := hid (below_tr HWa.out hb2); have hs2 := hb2.size; clear k1 k2 k8 k9 c1 c2 hb2; have k8 : w2.cell? ⟨w.heap.size, 8, none⟩ = some (.string tx) := cell_of_row w2 _ 8 _ _ _ hO2; have HO2 := hid hO2; clear hO2
    go_wp2_with (first | (go_at_call 29; (with_reducible refine (c3 _).mono ?_); rintro e w3 ⟨rfl, hb3⟩) | (go_at_call 24; go_must (with_reducible refine (lawNum_any _ _).mono ?_); rintro e w' ⟨rfl, hw⟩; rw [hw]; clear hw w'))
    go_ret; exact ⟨rfl, WOut.same HWW.out (below_tr HW2.out hb3)⟩
end Go.Proofs.YtabpkohcimiceabGreat
namespace Go.Proofs.YtabpkohcimiceabGreat
set_option maxRecDepth 100000
set_option maxHeartbeats 1000000
open Go.RowKit
set_option linter.unusedVariables false
set_option linter.unusedSimpArgs false
theorem cre_planOk (d sec : ByteArray) (role skip cap peer draw : Int) (h : creErr d.data.toList role skip cap peer sec.data.toList draw = 0) : ∃ k l t, PlanOk d (str (crePlan d.data.toList role skip cap peer sec.data.toList draw)) k l t ∧ t.length ≤ 100000 := by
  obtain ⟨k, s, hD, hk, hk1, hk2, hz, so, skept, scap, sneed, slaw, hto, hplan⟩ := cre_ok d role skip cap peer sec draw h; obtain ⟨r1, r2, r3⟩ := cre_safe (packL s 0 (k * 32)) d.data.toList s k hz hk1 hk2 so skept scap sneed slaw rfl; obtain ⟨q1, q2⟩ := recsF_ok _ _ _ _ r1; have hl := encL_bd k _ q2
  have hlen : (packL s 0 (k * 32)).length = k * 32 := packL_length s 0 k so (by rw [skept]; exact Nat.zero_le _) (by omega) sneed
  refine ⟨k, _, packL s 0 (k * 32), ⟨hD, hk, hk1, hk2, ?_, by rw [str_toList, hplan]; exact r1, r2, fun m kq hm => ?_⟩, by omega⟩
  · rw [str_size, hplan]; unfold maxLen; omega
  · rcases r3 m kq hm with q | q
    · exact ⟨_, q⟩
    · exact ⟨_, q⟩
theorem rec_planOk (d : ByteArray) (h : (repairR d.data.toList).2 = 0) : ∃ k l t, PlanOk d (str (recPlan d.data.toList)) k l t ∧ t.length ≤ 100000 := by
  cases hD : isDiskL d.data.toList with
  | false => rw [repairR, hD] at h; simp at h
  | true =>
    obtain ⟨k, hk, hk1, hk2⟩ := disk_facts hD
    have hkl : d.data.toList.length = k * 32 := by rw [len_list]; exact hk
    obtain ⟨r, hr⟩ : ∃ r, repairR d.data.toList = (r, 0) := ⟨(repairR d.data.toList).1, by rw [← h]⟩
    obtain ⟨s1, s2, s3⟩ := rec_safe d.data.toList r k hkl hk1 hk2 hr; obtain ⟨q1, q2⟩ := recsF_ok _ _ _ _ s1; have hl := encL_bd k _ q2
    have hpl : recPlan d.data.toList = encL (changesR d.data.toList r 0 k) := by
      rw [recPlan, hr, if_pos rfl, hkl, show k * 32 / 32 = k by omega, changesL_enc]
    have hrl : r.length = k * 32 := by
      rw [← s2 []]
      exact leftL_length _ _ _ _ _ hkl (fit_of_ok q2) (Nat.le_refl _)
    refine ⟨k, _, r, ⟨hD, hk, hk1, hk2, ?_, by rw [str_toList, hpl]; exact s1, s2, fun m kq hm => ⟨r, s3 m kq hm⟩⟩, by omega⟩
    rw [str_size, hpl]; unfold maxLen; omega
theorem makes_create (G base : Nat) (A B : ByteArray) (v : Value) (L : List ByteArray) (kd who nn dr o0 o1 o2 o3 : Int) (tx ty : ByteArray) (cut : Bool) (w : World) (hW : WAt G base A B v L w) (hGb : G < base) (hn : (Lit.int .i64 nn).wf = true) (hdr : (Lit.int .i64 dr).wf = true) (hx : tx.size ≤ maxLen) (hy : ty.size ≤ maxLen) (hc0 : (Lit.int .i64 o0).wf = true) (hc1 : (Lit.int .i64 o1).wf = true) (hc2 : (Lit.int .i64 o2).wf = true) (hc3 : (Lit.int .i64 o3).wf = true) (hk : kd = 4) :
    Calls Tryz.prog 6 #[.pointer (some ⟨G, 0, none⟩), .agg #[.int .i64 kd, .int .i64 who, .int .i64 nn, .int .i64 dr, .int .i64 o0, .int .i64 o1, .int .i64 o2, .int .i64 o3, .string tx, .string ty, .bool cut]] w fun e w' => e = .returned (.bool true) ∧ WOut G base v L w w' := by
  have hdd := disk_le who hW.a hW.b; have hGlt := hW.lt
  have c1 := fun w hG => wDisk_any G A B v who w hG
  have c2 := fun w => creates_walk (diskOf A B who) o0 o1 o2 o3 tx dr nn ty hdd hc0 hc1 hc2 hc3 hx hdr hn hy w
  have c3 : ∀ w, Calls Tryz.prog 23 #[.string (diskOf A B who), .agg #[.int .i64 o0, .int .i64 o1, .int .i64 o2, .int .i64 o3], .string tx, .int .i64 dr] w fun e w' => e = .returned (.tuple #[.string (str (crePlan (diskOf A B who).data.toList o0 o1 o2 o3 tx.data.toList dr)), .int .i64 (creErr (diskOf A B who).data.toList o0 o1 o2 o3 tx.data.toList dr)]) ∧ Below w.heap.size w w' := fun w => pawlCreate_any (diskOf A B who) o0 o1 o2 o3 tx dr w hdd hx
  have HWW := hid hW; subst hk
  by_cases he : creErr (diskOf A B who).data.toList o0 o1 o2 o3 tx.data.toList dr = 0
  · obtain ⟨k, l, tt, hp, ht⟩ := cre_planOk (diskOf A B who) tx o0 o1 o2 o3 dr he
    have c4 := fun w hG => carry_any G A B v 4 who nn dr o0 o1 o2 o3 tx ty cut (str (crePlan (diskOf A B who).data.toList o0 o1 o2 o3 tx.data.toList dr)) k l _ w hG hp ht (wf_i64 hn) hy
    rw [he] at c3
    generalize str (crePlan (diskOf A B who).data.toList o0 o1 o2 o3 tx.data.toList dr) = pl at *
    generalize diskOf A B who = dd at *
    clear he hp ht hdd
    go_enter Tryz.func6, Tryz.ntmps6
    go_upto_region 1 with fail
    obtain ⟨ob, eob⟩ : ∃ ob, ob = Obj.cells #[.int .i64 4, .int .i64 who, .int .i64 nn, .int .i64 dr, .int .i64 o0, .int .i64 o1, .int .i64 o2, .int .i64 o3, .string tx, .string ty, .bool cut] 31 := ⟨_, rfl⟩
    rw [← eob]; have hO := heap_alloc_new w ob; have hWa : Below w.heap.size w (w.alloc ob) := (Below.refl _ _).alloc (Nat.le_refl _) _
    have hlt : w.heap.size < (w.alloc ob).heap.size := by simp
    generalize (w.alloc ob) = wa at hO hWa hlt ⊢
    subst eob; have HO := hid hO; have HWa := hid hWa; have HA := hid (hW.next hWa); obtain ⟨k0, k1, k2, k3, k4, k5, k6, k7, k8, k9, _⟩ := cells11 hO; clear hO hWa
    go_upto_region 4 with (first | (go_at_call 11; (with_reducible refine (c1 _ HA.out.blk).mono ?_); rintro e w' ⟨rfl, hw⟩; rw [hw]; clear hw w') | (go_at_call 22; (with_reducible refine (c2 _).mono ?_); rintro e w2 ⟨rfl, hb2⟩))
    have HA2 := hid (HA.out.next hb2)
    have hO2 := (hb2.block w.heap.size (by omega)).trans HO.out
    have HW2 := hid (below_tr HWa.out hb2); have hs2 := hb2.size; clear k0 k1 k2 k3 k4 k5 k6 k7 k8 k9 c1 c2 hb2; obtain ⟨_, _, _, k3, k4, k5, k6, k7, k8, _, _⟩ := cells11 hO2; have HO2 := hid hO2; clear hO2
    go_upto_region 6 with (first | (go_at_call 23; (with_reducible refine (c3 _).mono ?_); rintro e w3 ⟨rfl, hb3⟩) | (go_at_call 24; go_must (with_reducible refine (lawNum_any _ _).mono ?_); rintro e w' ⟨rfl, hw⟩; rw [hw]; clear hw w'))
    have HA3 := hid (HA2.out.next hb3)
    have hO3 := (hb3.block w.heap.size (by omega)).trans HO2.out
    have HW3 := hid (below_tr HW2.out hb3); have hs3 := hb3.size; clear k3 k4 k5 k6 k7 k8 c3 hb3; obtain ⟨k0, k1, k2, k3, k4, k5, k6, k7, k8, k9, k10⟩ := cells11 hO3; have HO3 := hid hO3; clear hO3
    go_wp2_with (first | (go_at_call 25; (with_reducible refine (c4 _ HA3.out.blk).mono ?_); rintro e w4 ⟨rfl, ⟨x, hG4, hx⟩, hN4⟩; have HG4 := hid hG4; have HX := hid hx; have HN4 := hid hN4; clear hG4 hx hN4))
    go_ret; exact ⟨rfl, WOut.set who HWW.out hGb ((Only.of_below HW3.out).trans HN4.out) HG4.out HX.out⟩
  · generalize creErr (diskOf A B who).data.toList o0 o1 o2 o3 tx.data.toList dr = E at *
    have hE : (E == 0) = false := by rw [beq_eq_false_iff_ne]; exact he
    generalize str (crePlan (diskOf A B who).data.toList o0 o1 o2 o3 tx.data.toList dr) = pl at *
    generalize diskOf A B who = dd at *
    clear hdd
    go_enter Tryz.func6, Tryz.ntmps6
    go_upto_region 1 with fail
    obtain ⟨ob, eob⟩ : ∃ ob, ob = Obj.cells #[.int .i64 4, .int .i64 who, .int .i64 nn, .int .i64 dr, .int .i64 o0, .int .i64 o1, .int .i64 o2, .int .i64 o3, .string tx, .string ty, .bool cut] 31 := ⟨_, rfl⟩
    rw [← eob]; have hO := heap_alloc_new w ob; have hWa : Below w.heap.size w (w.alloc ob) := (Below.refl _ _).alloc (Nat.le_refl _) _
    have hlt : w.heap.size < (w.alloc ob).heap.size := by simp
    generalize (w.alloc ob) = wa at hO hWa hlt ⊢
    subst eob; have HO := hid hO; have HWa := hid hWa; have HA := hid (hW.next hWa); obtain ⟨k0, k1, k2, k3, k4, k5, k6, k7, k8, k9, _⟩ := cells11 hO; clear hO hWa
    go_upto_region 4 with (first | (go_at_call 11; (with_reducible refine (c1 _ HA.out.blk).mono ?_); rintro e w' ⟨rfl, hw⟩; rw [hw]; clear hw w') | (go_at_call 22; (with_reducible refine (c2 _).mono ?_); rintro e w2 ⟨rfl, hb2⟩))
    have HA2 := hid (HA.out.next hb2)
    have hO2 := (hb2.block w.heap.size (by omega)).trans HO.out
    have HW2 := hid (below_tr HWa.out hb2); have hs2 := hb2.size; clear k0 k1 k2 k3 k4 k5 k6 k7 k8 k9 c1 c2 hb2; obtain ⟨_, _, _, k3, k4, k5, k6, k7, k8, _, _⟩ := cells11 hO2; have HO2 := hid hO2; clear hO2
    go_wp2_with (first | (go_at_call 23; (with_reducible refine (c3 _).mono ?_); rintro e w3 ⟨rfl, hb3⟩) | (go_at_call 24; go_must (with_reducible refine (lawNum_any _ _).mono ?_); rintro e w' ⟨rfl, hw⟩; rw [hw]; clear hw w'))
    go_ret; exact ⟨rfl, WOut.same HWW.out (below_tr HW2.out hb3)⟩
theorem makes_recover (G base : Nat) (A B : ByteArray) (v : Value) (L : List ByteArray) (kd who nn dr o0 o1 o2 o3 : Int) (tx ty : ByteArray) (cut : Bool) (w : World) (hW : WAt G base A B v L w) (hGb : G < base) (hn : (Lit.int .i64 nn).wf = true) (hdr : (Lit.int .i64 dr).wf = true) (hx : tx.size ≤ maxLen) (hy : ty.size ≤ maxLen) (hc0 : (Lit.int .i64 o0).wf = true) (hc1 : (Lit.int .i64 o1).wf = true) (hc2 : (Lit.int .i64 o2).wf = true) (hc3 : (Lit.int .i64 o3).wf = true) (hk : kd ≠ 4) :
    Calls Tryz.prog 6 #[.pointer (some ⟨G, 0, none⟩), .agg #[.int .i64 kd, .int .i64 who, .int .i64 nn, .int .i64 dr, .int .i64 o0, .int .i64 o1, .int .i64 o2, .int .i64 o3, .string tx, .string ty, .bool cut]] w fun e w' => e = .returned (.bool true) ∧ WOut G base v L w w' := by
  have hdd := disk_le who hW.a hW.b; have hGlt := hW.lt
  have c1 := fun w hG => wDisk_any G A B v who w hG
  have c2 := fun w => looks_walk (diskOf A B who) nn ty hdd hn hy w
  have c3 := fun w => pawlRecover_any (diskOf A B who) w hdd
  have HWW := hid hW
  have hk4 : (kd == 4) = false := by rw [beq_eq_false_iff_ne]; exact hk
  by_cases he : (repairR (diskOf A B who).data.toList).2 = 0
  · obtain ⟨k, l, tt, hp, ht⟩ := rec_planOk (diskOf A B who) he
    have c4 := fun w hG => carry_any G A B v kd who nn dr o0 o1 o2 o3 tx ty cut (str (recPlan (diskOf A B who).data.toList)) k l _ w hG hp ht (wf_i64 hn) hy
    rw [he] at c3
    generalize str (recPlan (diskOf A B who).data.toList) = pl at *
    generalize diskOf A B who = dd at *
    clear he hp ht hdd
    go_enter Tryz.func6, Tryz.ntmps6
    go_upto_region 1 with fail
    obtain ⟨ob, eob⟩ : ∃ ob, ob = Obj.cells #[.int .i64 kd, .int .i64 who, .int .i64 nn, .int .i64 dr, .int .i64 o0, .int .i64 o1, .int .i64 o2, .int .i64 o3, .string tx, .string ty, .bool cut] 31 := ⟨_, rfl⟩
    rw [← eob]; have hO := heap_alloc_new w ob; have hWa : Below w.heap.size w (w.alloc ob) := (Below.refl _ _).alloc (Nat.le_refl _) _
    have hlt : w.heap.size < (w.alloc ob).heap.size := by simp
    generalize (w.alloc ob) = wa at hO hWa hlt ⊢
    subst eob; have HO := hid hO; have HWa := hid hWa; have HA := hid (hW.next hWa); obtain ⟨k0, k1, k2, _, _, _, _, _, _, k9, _⟩ := cells11 hO; clear hO hWa
    go_upto_region 9 with (first | (go_at_call 11; (with_reducible refine (c1 _ HA.out.blk).mono ?_); rintro e w' ⟨rfl, hw⟩; rw [hw]; clear hw w') | (go_at_call 26; (with_reducible refine (c2 _).mono ?_); rintro e w2 ⟨rfl, hb2⟩))
    have HA2 := hid (HA.out.next hb2)
    have hO2 := (hb2.block w.heap.size (by omega)).trans HO.out
    have HW2 := hid (below_tr HWa.out hb2); have hs2 := hb2.size; clear k0 k1 k2 k9 c1 c2 hb2; have HO2 := hid hO2; clear hO2
    go_upto_region 11 with (first | (go_at_call 27; (with_reducible refine (c3 _).mono ?_); rintro e w3 ⟨rfl, hb3⟩) | (go_at_call 24; go_must (with_reducible refine (lawNum_any _ _).mono ?_); rintro e w' ⟨rfl, hw⟩; rw [hw]; clear hw w'))
    have HA3 := hid (HA2.out.next hb3)
    have hO3 := (hb3.block w.heap.size (by omega)).trans HO2.out
    have HW3 := hid (below_tr HW2.out hb3); have hs3 := hb3.size; clear c3 hb3; obtain ⟨k0, k1, k2, k3, k4, k5, k6, k7, k8, k9, k10⟩ := cells11 hO3; have HO3 := hid hO3; clear hO3
    go_wp2_with (first | (go_at_call 25; (with_reducible refine (c4 _ HA3.out.blk).mono ?_); rintro e w4 ⟨rfl, ⟨x, hG4, hx⟩, hN4⟩; have HG4 := hid hG4; have HX := hid hx; have HN4 := hid hN4; clear hG4 hx hN4))
    go_ret; exact ⟨rfl, WOut.set who HWW.out hGb ((Only.of_below HW3.out).trans HN4.out) HG4.out HX.out⟩
  · generalize (repairR (diskOf A B who).data.toList).2 = E at *
    have hE : (E == 0) = false := by rw [beq_eq_false_iff_ne]; exact he
    generalize str (recPlan (diskOf A B who).data.toList) = pl at *
    generalize diskOf A B who = dd at *
    clear hdd
    go_enter Tryz.func6, Tryz.ntmps6
    go_upto_region 1 with fail
    obtain ⟨ob, eob⟩ : ∃ ob, ob = Obj.cells #[.int .i64 kd, .int .i64 who, .int .i64 nn, .int .i64 dr, .int .i64 o0, .int .i64 o1, .int .i64 o2, .int .i64 o3, .string tx, .string ty, .bool cut] 31 := ⟨_, rfl⟩
    rw [← eob]; have hO := heap_alloc_new w ob; have hWa : Below w.heap.size w (w.alloc ob) := (Below.refl _ _).alloc (Nat.le_refl _) _
    have hlt : w.heap.size < (w.alloc ob).heap.size := by simp
    generalize (w.alloc ob) = wa at hO hWa hlt ⊢
    subst eob; have HO := hid hO; have HWa := hid hWa; have HA := hid (hW.next hWa); obtain ⟨k0, k1, k2, _, _, _, _, _, _, k9, _⟩ := cells11 hO; clear hO hWa
    go_upto_region 9 with (first | (go_at_call 11; (with_reducible refine (c1 _ HA.out.blk).mono ?_); rintro e w' ⟨rfl, hw⟩; rw [hw]; clear hw w') | (go_at_call 26; (with_reducible refine (c2 _).mono ?_); rintro e w2 ⟨rfl, hb2⟩))
    have HA2 := hid (HA.out.next hb2)
    have hO2 := (hb2.block w.heap.size (by omega)).trans HO.out
    have HW2 := hid (below_tr HWa.out hb2); have hs2 := hb2.size; clear k0 k1 k2 k9 c1 c2 hb2; have HO2 := hid hO2; clear hO2
    go_wp2_with (first | (go_at_call 27; (with_reducible refine (c3 _).mono ?_); rintro e w3 ⟨rfl, hb3⟩) | (go_at_call 24; go_must (with_reducible refine (lawNum_any _ _).mono ?_); rintro e w' ⟨rfl, hw⟩; rw [hw]; clear hw w'))
    go_ret; exact ⟨rfl, WOut.same HWW.out (below_tr HW2.out hb3)⟩
theorem makes_any (G base : Nat) (A B : ByteArray) (v : Value) (L : List ByteArray) (kd who nn dr o0 o1 o2 o3 : Int) (tx ty : ByteArray) (cut : Bool) (w : World) (hW : WAt G base A B v L w) (hGb : G < base) (hn : (Lit.int .i64 nn).wf = true) (hdr : (Lit.int .i64 dr).wf = true) (hx : tx.size ≤ maxLen) (hy : ty.size ≤ maxLen) (hc0 : (Lit.int .i64 o0).wf = true) (hc1 : (Lit.int .i64 o1).wf = true) (hc2 : (Lit.int .i64 o2).wf = true) (hc3 : (Lit.int .i64 o3).wf = true) :
    Calls Tryz.prog 6 #[.pointer (some ⟨G, 0, none⟩), .agg #[.int .i64 kd, .int .i64 who, .int .i64 nn, .int .i64 dr, .int .i64 o0, .int .i64 o1, .int .i64 o2, .int .i64 o3, .string tx, .string ty, .bool cut]] w fun e w' => e = .returned (.bool true) ∧ WOut G base v L w w' := by
  by_cases hk : kd = 4
  · exact makes_create G base A B v L kd who nn dr o0 o1 o2 o3 tx ty cut w hW hGb hn hdr hx hy hc0 hc1 hc2 hc3 hk
  · exact makes_recover G base A B v L kd who nn dr o0 o1 o2 o3 tx ty cut w hW hGb hn hdr hx hy hc0 hc1 hc2 hc3 hk
end Go.Proofs.YtabpkohcimiceabGreat
namespace Go.Proofs.YtabpkohcimiceabGreat
set_option maxRecDepth 100000
set_option maxHeartbeats 1000000
open Go.RowKit
set_option linter.unusedVariables false
set_option linter.unusedSimpArgs false
theorem given_blank (G base : Nat) (A B : ByteArray) (v : Value) (L : List ByteArray) (kd who nn dr o0 o1 o2 o3 : Int) (tx ty : ByteArray) (cut : Bool) (w : World) (hW : WAt G base A B v L w) (hGb : G < base) (hbase : base ≤ w.heap.size) (hLb : (L.length + 1) * 16 ≤ 140737488355328) (hn : (Lit.int .i64 nn).wf = true) (hdr : (Lit.int .i64 dr).wf = true) (hx : tx.size ≤ maxLen) (hy : ty.size ≤ maxLen) (hk : kd = 1) :
    Calls Tryz.prog 5 #[.pointer (some ⟨G, 0, none⟩), .agg #[.int .i64 kd, .int .i64 who, .int .i64 nn, .int .i64 dr, .int .i64 o0, .int .i64 o1, .int .i64 o2, .int .i64 o3, .string tx, .string ty, .bool cut]] w fun e w' => e = .returned (.bool true) ∧ WOut G base v L w w' := by
  have hdd := disk_le who hW.a hW.b; have hGlt := hW.lt
  have c1 := fun w hG => wDisk_any G A B v who w hG
  have HWW := hid hW
  have c2 := fun w => lawPick_any nn 42 w (wf_i64 hn).1 (wf_i64 hn).2 (by omega) (by omega)
  obtain ⟨b0, b1⟩ := pickN_bd nn 42 (by omega)
  have c3 := fun w => zeros_any (pickN nn 42 * 32) w (by omega) (by omega)
  have hwz : IntKind.i64.wrap (pickN nn 42 * 32) = pickN nn 42 * 32 := by rw [IntKind.wrap_i64]; omega
  have hzs : (str (List.replicate (pickN nn 42 * 32).toNat 0)).size ≤ maxLen := by
    rw [str_size, List.length_replicate]; unfold maxLen; omega
  generalize str (List.replicate (pickN nn 42 * 32).toNat 0) = zz at *
  have c9 := fun x w hG => wSet_any G A B x v who w hG
  have nk : (kd == 1) = true := by rw [beq_iff_eq]; exact hk
  clear hk
  generalize diskOf A B who = dd at *
  go_enter Tryz.func5, Tryz.ntmps5
  go_upto_region 1 with fail
  obtain ⟨ob, eob⟩ : ∃ ob, ob = Obj.cells #[.int .i64 kd, .int .i64 who, .int .i64 nn, .int .i64 dr, .int .i64 o0, .int .i64 o1, .int .i64 o2, .int .i64 o3, .string tx, .string ty, .bool cut] 31 := ⟨_, rfl⟩
  rw [← eob]; have hO := heap_alloc_new w ob; have hWa : Below w.heap.size w (w.alloc ob) := (Below.refl _ _).alloc (Nat.le_refl _) _
  have hlt : w.heap.size < (w.alloc ob).heap.size := by simp
  generalize (w.alloc ob) = wa at hO hWa hlt ⊢
  subst eob; have HO := hid hO; have HWa := hid hWa; have HA := hid (hW.next hWa); obtain ⟨k0, k1, k2, _, _, _, _, _, _, _, _⟩ := cells11 hO; clear hO hWa
  go_upto_region 5 with (first | (go_at_call 11; (with_reducible refine (c1 _ HA.out.blk).mono ?_); rintro e w' ⟨rfl, hw⟩; rw [hw]; clear hw w'))
  go_region_held3 (fun w' => w'.cell? ⟨w.heap.size, 1, none⟩ = some (.int .i64 who) ∧ w'.cell? ⟨w.heap.size, 2, none⟩ = some (.int .i64 nn)) (first | (simp [k1, k2]; done) | (simp [r1, r2]; done)) (first | (go_at_call 20; go_must (with_reducible refine (c2 _).mono ?_); rintro e w' ⟨rfl, hw⟩; rw [hw]; clear hw w') | (go_at_call 19; go_must (with_reducible refine (c3 _).mono ?_); rintro e w' ⟨rfl, hw⟩; rw [hw]; clear hw w') | (go_at_call 18; go_must (with_reducible refine (c9 _ _ (WAt.blk (HA.out.next (by first | exact (Below.refl _ _).drew | exact Below.refl _ _)))).mono ?_); rintro e w5 ⟨rfl, hG5, hN5⟩; have hO5 := (hN5.block w.heap.size (by exact hlt) (fun q => by omega)).trans HO.out; have r1 : w5.cell? ⟨w.heap.size, 1, none⟩ = some (.int .i64 who) := cell_of_row w5 _ 1 _ _ _ hO5; have r2 : w5.cell? ⟨w.heap.size, 2, none⟩ = some (.int .i64 nn) := cell_of_row w5 _ 2 _ _ _ hO5))
  all_goals (have HG5 := hid hG5; have HN5 : Hid (Only (fun b => b = G) wa w5) := ⟨hN5.os, hN5.tape, hN5.output, hN5.size, hN5.block⟩; have HX5 := hid hzs; clear hG5 hN5 hzs r1 r2 k1 k2 hO5)
  all_goals go_wp2
  all_goals go_ret
  all_goals exact ⟨rfl, WOut.set who HWW.out hGb ((Only.of_below HWa.out).trans HN5.out) HG5.out HX5.out⟩
theorem given_bytes (G base : Nat) (A B : ByteArray) (v : Value) (L : List ByteArray) (kd who nn dr o0 o1 o2 o3 : Int) (tx ty : ByteArray) (cut : Bool) (w : World) (hW : WAt G base A B v L w) (hGb : G < base) (hbase : base ≤ w.heap.size) (hLb : (L.length + 1) * 16 ≤ 140737488355328) (hn : (Lit.int .i64 nn).wf = true) (hdr : (Lit.int .i64 dr).wf = true) (hx : tx.size ≤ maxLen) (hy : ty.size ≤ maxLen) (hk : kd = 2) :
    Calls Tryz.prog 5 #[.pointer (some ⟨G, 0, none⟩), .agg #[.int .i64 kd, .int .i64 who, .int .i64 nn, .int .i64 dr, .int .i64 o0, .int .i64 o1, .int .i64 o2, .int .i64 o3, .string tx, .string ty, .bool cut]] w fun e w' => e = .returned (.bool true) ∧ WOut G base v L w w' := by
  have hdd := disk_le who hW.a hW.b; have hGlt := hW.lt
  have c1 := fun w hG => wDisk_any G A B v who w hG
  have HWW := hid hW
  have c9 := fun w hG => wSet_any G A B tx v who w hG
  have n1 : (kd == 1) = false := by rw [beq_eq_false_iff_ne]; omega
  have nk : (kd == 2) = true := by rw [beq_iff_eq]; exact hk
  clear hk
  generalize diskOf A B who = dd at *
  go_enter Tryz.func5, Tryz.ntmps5
  go_upto_region 1 with fail
  obtain ⟨ob, eob⟩ : ∃ ob, ob = Obj.cells #[.int .i64 kd, .int .i64 who, .int .i64 nn, .int .i64 dr, .int .i64 o0, .int .i64 o1, .int .i64 o2, .int .i64 o3, .string tx, .string ty, .bool cut] 31 := ⟨_, rfl⟩
  rw [← eob]; have hO := heap_alloc_new w ob; have hWa : Below w.heap.size w (w.alloc ob) := (Below.refl _ _).alloc (Nat.le_refl _) _
  have hlt : w.heap.size < (w.alloc ob).heap.size := by simp
  generalize (w.alloc ob) = wa at hO hWa hlt ⊢
  subst eob; have HO := hid hO; have HWa := hid hWa; have HA := hid (hW.next hWa); obtain ⟨k0, k1, _, _, _, _, _, _, k8, _, _⟩ := cells11 hO; clear hO hWa
  go_wp2_with (first | (go_at_call 11; (with_reducible refine (c1 _ HA.out.blk).mono ?_); rintro e w' ⟨rfl, hw⟩; rw [hw]; clear hw w') | (go_at_call 18; (with_reducible refine (c9 _ HA.out.blk).mono ?_); rintro e w5 ⟨rfl, hG5, hN5⟩; have HG5 := hid hG5; have HN5 := hid hN5; clear hG5 hN5))
  go_ret; exact ⟨rfl, WOut.set who HWW.out hGb ((Only.of_below HWa.out).trans HN5.out) HG5.out hx⟩
theorem given_poke (G base : Nat) (A B : ByteArray) (v : Value) (L : List ByteArray) (kd who nn dr o0 o1 o2 o3 : Int) (tx ty : ByteArray) (cut : Bool) (w : World) (hW : WAt G base A B v L w) (hGb : G < base) (hbase : base ≤ w.heap.size) (hLb : (L.length + 1) * 16 ≤ 140737488355328) (hn : (Lit.int .i64 nn).wf = true) (hdr : (Lit.int .i64 dr).wf = true) (hx : tx.size ≤ maxLen) (hy : ty.size ≤ maxLen) (hk : kd = 3) :
    Calls Tryz.prog 5 #[.pointer (some ⟨G, 0, none⟩), .agg #[.int .i64 kd, .int .i64 who, .int .i64 nn, .int .i64 dr, .int .i64 o0, .int .i64 o1, .int .i64 o2, .int .i64 o3, .string tx, .string ty, .bool cut]] w fun e w' => e = .returned (.bool true) ∧ WOut G base v L w w' := by
  have hdd := disk_le who hW.a hW.b; have hGlt := hW.lt
  have c1 := fun w hG => wDisk_any G A B v who w hG
  have HWW := hid hW
  have c2 := fun w => poked_any (diskOf A B who) nn dr w hdd (wf_i64 hn) (wf_i64 hdr)
  have c9 := fun x w hG => wSet_any G A B x v who w hG
  have n1 : (kd == 1) = false := by rw [beq_eq_false_iff_ne]; omega
  have n2 : (kd == 2) = false := by rw [beq_eq_false_iff_ne]; omega
  have nk : (kd == 3) = true := by rw [beq_iff_eq]; exact hk
  clear hk
  generalize diskOf A B who = dd at *
  go_enter Tryz.func5, Tryz.ntmps5
  go_upto_region 1 with fail
  obtain ⟨ob, eob⟩ : ∃ ob, ob = Obj.cells #[.int .i64 kd, .int .i64 who, .int .i64 nn, .int .i64 dr, .int .i64 o0, .int .i64 o1, .int .i64 o2, .int .i64 o3, .string tx, .string ty, .bool cut] 31 := ⟨_, rfl⟩
  rw [← eob]; have hO := heap_alloc_new w ob; have hWa : Below w.heap.size w (w.alloc ob) := (Below.refl _ _).alloc (Nat.le_refl _) _
  have hlt : w.heap.size < (w.alloc ob).heap.size := by simp
  generalize (w.alloc ob) = wa at hO hWa hlt ⊢
  subst eob; have HO := hid hO; have HWa := hid hWa; have HA := hid (hW.next hWa); obtain ⟨k0, k1, k2, k3, _, _, _, _, _, _, _⟩ := cells11 hO; clear hO hWa
  go_upto_region 9 with (first | (go_at_call 11; (with_reducible refine (c1 _ HA.out.blk).mono ?_); rintro e w' ⟨rfl, hw⟩; rw [hw]; clear hw w'))
  go_region_held3 (fun w' => w'.cell? ⟨w.heap.size, 1, none⟩ = some (.int .i64 who) ∧ w'.cell? ⟨w.heap.size, 2, none⟩ = some (.int .i64 nn) ∧ w'.cell? ⟨w.heap.size, 3, none⟩ = some (.int .i64 dr)) (first | (simp [k1, k2, k3]; done) | (simp [s1, s2, s3]; done) | (simp [r1, r2, r3]; done)) (first | (go_at_call 21; go_must (with_reducible refine (c2 _).mono ?_); rintro e w4 ⟨⟨px, rfl, hpx⟩, hb4⟩; have hb4' : Below wa.heap.size wa w4 := ⟨hb4.os, hb4.tape, hb4.output, hb4.size, hb4.block⟩; have hO4 := (hb4'.block w.heap.size hlt).trans HO.out; obtain ⟨_, s1, s2, _, _, _, _, _, _, _, _⟩ := cells11 hO4; have s3 : w4.cell? ⟨w.heap.size, 3, none⟩ = some (.int .i64 dr) := cell_of_row w4 _ 3 _ _ _ hO4) | (go_at_call 18; go_must (with_reducible refine (c9 _ _ (HA.out.next hb4').blk).mono ?_); rintro e w5 ⟨rfl, hG5, hN5⟩; have hO5 := (hN5.block w.heap.size (by have := hb4'.size; omega) (fun q => by omega)).trans hO4; have r1 : w5.cell? ⟨w.heap.size, 1, none⟩ = some (.int .i64 who) := cell_of_row w5 _ 1 _ _ _ hO5; have r2 : w5.cell? ⟨w.heap.size, 2, none⟩ = some (.int .i64 nn) := cell_of_row w5 _ 2 _ _ _ hO5; have r3 : w5.cell? ⟨w.heap.size, 3, none⟩ = some (.int .i64 dr) := cell_of_row w5 _ 3 _ _ _ hO5))
  all_goals (have HG5 := hid hG5; have HN5 : Hid (Only (fun b => b = G) wa w5) := (Only.of_below hb4').trans ⟨hN5.os, hN5.tape, hN5.output, hN5.size, hN5.block⟩; have HX5 := hid hpx; clear hG5 hN5 hpx r1 r2 r3 s1 s2 s3 k1 k2 k3 hO5 hO4 hb4 hb4')
  all_goals go_wp2
  all_goals go_ret
  all_goals exact ⟨rfl, WOut.set who HWW.out hGb ((Only.of_below HWa.out).trans HN5.out) HG5.out HX5.out⟩
theorem given_none (G base : Nat) (A B : ByteArray) (v : Value) (L : List ByteArray) (kd who nn dr o0 o1 o2 o3 : Int) (tx ty : ByteArray) (cut : Bool) (w : World) (hW : WAt G base A B v L w) (hGb : G < base) (hbase : base ≤ w.heap.size) (hLb : (L.length + 1) * 16 ≤ 140737488355328) (hn : (Lit.int .i64 nn).wf = true) (hdr : (Lit.int .i64 dr).wf = true) (hx : tx.size ≤ maxLen) (hy : ty.size ≤ maxLen) (h1 : kd ≠ 1) (h2 : kd ≠ 2) (h3 : kd ≠ 3) (h8 : kd ≠ 8) :
    Calls Tryz.prog 5 #[.pointer (some ⟨G, 0, none⟩), .agg #[.int .i64 kd, .int .i64 who, .int .i64 nn, .int .i64 dr, .int .i64 o0, .int .i64 o1, .int .i64 o2, .int .i64 o3, .string tx, .string ty, .bool cut]] w fun e w' => e = .returned (.bool false) ∧ Below w.heap.size w w' := by
  have hdd := disk_le who hW.a hW.b; have hGlt := hW.lt
  have c1 := fun w hG => wDisk_any G A B v who w hG
  have HWW := hid hW
  have n1 : (kd == 1) = false := by rw [beq_eq_false_iff_ne]; exact h1
  have n2 : (kd == 2) = false := by rw [beq_eq_false_iff_ne]; exact h2
  have n3 : (kd == 3) = false := by rw [beq_eq_false_iff_ne]; exact h3
  have n8 : (kd == 8) = false := by rw [beq_eq_false_iff_ne]; exact h8
  clear h1 h2 h3 h8
  generalize diskOf A B who = dd at *
  go_enter Tryz.func5, Tryz.ntmps5
  go_upto_region 1 with fail
  obtain ⟨ob, eob⟩ : ∃ ob, ob = Obj.cells #[.int .i64 kd, .int .i64 who, .int .i64 nn, .int .i64 dr, .int .i64 o0, .int .i64 o1, .int .i64 o2, .int .i64 o3, .string tx, .string ty, .bool cut] 31 := ⟨_, rfl⟩
  rw [← eob]; have hO := heap_alloc_new w ob; have hWa : Below w.heap.size w (w.alloc ob) := (Below.refl _ _).alloc (Nat.le_refl _) _
  have hlt : w.heap.size < (w.alloc ob).heap.size := by simp
  generalize (w.alloc ob) = wa at hO hWa hlt ⊢
  subst eob; have HO := hid hO; have HWa := hid hWa; have HA := hid (hW.next hWa); obtain ⟨k0, k1, _, _, _, _, _, _, _, _, _⟩ := cells11 hO; clear hO hWa
  go_wp2_with (first | (go_at_call 11; (with_reducible refine (c1 _ HA.out.blk).mono ?_); rintro e w' ⟨rfl, hw⟩; rw [hw]; clear hw w'))
  go_ret; exact ⟨rfl, HWa.out⟩
theorem given_turn (G base : Nat) (A B : ByteArray) (v : Value) (L : List ByteArray) (kd who nn dr o0 o1 o2 o3 : Int) (tx ty : ByteArray) (cut : Bool) (w : World) (hW : WAt G base A B v L w) (hGb : G < base) (hbase : base ≤ w.heap.size) (hLb : (L.length + 1) * 16 ≤ 140737488355328) (hn : (Lit.int .i64 nn).wf = true) (hdr : (Lit.int .i64 dr).wf = true) (hx : tx.size ≤ maxLen) (hy : ty.size ≤ maxLen) (hk : kd = 8) :
    Calls Tryz.prog 5 #[.pointer (some ⟨G, 0, none⟩), .agg #[.int .i64 kd, .int .i64 who, .int .i64 nn, .int .i64 dr, .int .i64 o0, .int .i64 o1, .int .i64 o2, .int .i64 o3, .string tx, .string ty, .bool cut]] w fun e w' => e = .returned (.bool true) ∧ WOut G base v L w w' := by
  obtain ⟨i0, hi0, hz0, hz1, hz2⟩ := info_parts Tryz.infoStr; obtain ⟨xa, xc, hxv⟩ := txtForm hW.row; subst hxv; have hdd := disk_le who hW.a hW.b; have hGlt := hW.lt
  have c1 := fun w hG => wDisk_any G A B (.slice xa L.length xc) who w hG
  have HWW := hid hW
  have hL2 : L.length ≤ maxLen := by unfold maxLen; omega
  have c2 := fun w hA => wLast_any G base A B (.slice xa L.length xc) L w (WAt.blk hA) (WAt.row hA) hL2 (WAt.txt hA)
  have c3 := fun x w hx => poked_any x nn dr w hx (wf_i64 hn) (wf_i64 hdr)
  have n1 : (kd == 1) = false := by rw [beq_eq_false_iff_ne]; omega
  have n2 : (kd == 2) = false := by rw [beq_eq_false_iff_ne]; omega
  have n3 : (kd == 3) = false := by rw [beq_eq_false_iff_ne]; omega
  have nk : (kd == 8) = true := by rw [beq_iff_eq]; exact hk
  clear hk
  generalize diskOf A B who = dd at *
  go_enter Tryz.func5, Tryz.ntmps5
  go_upto_region 1 with fail
  obtain ⟨ob, eob⟩ : ∃ ob, ob = Obj.cells #[.int .i64 kd, .int .i64 who, .int .i64 nn, .int .i64 dr, .int .i64 o0, .int .i64 o1, .int .i64 o2, .int .i64 o3, .string tx, .string ty, .bool cut] 31 := ⟨_, rfl⟩
  rw [← eob]; have hO := heap_alloc_new w ob; have hWa : Below w.heap.size w (w.alloc ob) := (Below.refl _ _).alloc (Nat.le_refl _) _
  have hlt : w.heap.size < (w.alloc ob).heap.size := by simp
  generalize (w.alloc ob) = wa at hO hWa hlt ⊢
  subst eob; have HO := hid hO; have HWa := hid hWa; have HA := hid (hW.next hWa); obtain ⟨k0, k1, k2, k3, _, _, _, _, _, _, _⟩ := cells11 hO; clear hO hWa
  go_upto_region 11 with (first | (go_at_call 11; (with_reducible refine (c1 _ HA.out.blk).mono ?_); rintro e w' ⟨rfl, hw⟩; rw [hw]; clear hw w'))
  go_cut [6] (fun x wx => (∃ lx : ByteArray, x = .string lx ∧ lx.size ≤ maxLen) ∧ Below wa.heap.size wa wx)
  case first =>
    go_region_held3 (fun w' => w'.cell? ⟨w.heap.size, 2, none⟩ = some (.int .i64 nn) ∧ w'.cell? ⟨w.heap.size, 3, none⟩ = some (.int .i64 dr)) (first | (simp [k2, k3]; done) | (simp [s2, s3]; done)) (first | (go_at_call 17; go_must (with_reducible refine (c2 _ (HA.out.next (by first | exact (Below.refl _ _).drew | exact Below.refl _ _))).mono ?_); rintro e w4 ⟨⟨px, rfl, hpx⟩, hb4⟩; have hb4' : Below wa.heap.size wa w4 := ⟨hb4.os, hb4.tape, hb4.output, hb4.size, hb4.block⟩; have hO4 := (hb4'.block w.heap.size hlt).trans HO.out; have s2 : w4.cell? ⟨w.heap.size, 2, none⟩ = some (.int .i64 nn) := cell_of_row w4 _ 2 _ _ _ hO4; have s3 : w4.cell? ⟨w.heap.size, 3, none⟩ = some (.int .i64 dr) := cell_of_row w4 _ 3 _ _ _ hO4) | (go_at_call 21; go_must (with_reducible refine (c3 _ _ hpx).mono ?_); rintro e w5 ⟨⟨qx, rfl, hqx⟩, hb5⟩; have hb5' : Below wa.heap.size wa w5 := below_tr hb4' ⟨hb5.os, hb5.tape, hb5.output, hb5.size, hb5.block⟩; have hO5 := (hb5'.block w.heap.size hlt).trans HO.out; clear s2 s3; have s2 : w5.cell? ⟨w.heap.size, 2, none⟩ = some (.int .i64 nn) := cell_of_row w5 _ 2 _ _ _ hO5; have s3 : w5.cell? ⟨w.heap.size, 3, none⟩ = some (.int .i64 dr) := cell_of_row w5 _ 3 _ _ _ hO5))
    all_goals (go_wp2_with fail)
    all_goals go_meet
    all_goals exact ⟨⟨qx, rfl, hqx⟩, ⟨hb5'.os, hb5'.tape, hb5'.output, hb5'.size, hb5'.block⟩⟩
  case rest =>
    obtain ⟨⟨lx, rfl, hlx⟩, hb4⟩ := hcut; have hA4 := HA.out.next hb4; have hr4 := hA4.row; have hsz4 := hb4.size; have z2 : wc.cell? ⟨G, 2, none⟩ = some (.slice xa L.length xc) := cell_of_row wc _ 2 _ _ _ hA4.blk; have HG4 := hid hA4.blk; have HLX := hid hlx; have HW4 := hid (below_tr HWa.out hb4); clear k0 k1 k2 k3 hA4 hb4 hlx c1 c2 c3
    go_upto_region 13 with (first | (at_builtin; go_loud (refine wpList_append_lies _ rfl (.tmp 57) (.tmp 59) _ rfl base 9 i0 _ 1 16 Tryz.underlying24 hi0 hz0 hz1 hz2 rfl (by omega) _ L.length (txts L) rfl (hr4.alloc _) ⟨wc.heap.size, 0, none⟩ 1 1 [.string lx] rfl rfl (World.news_of_block (cs := #[.string lx]) (t := 9) (fr := (0, 0)) (heap_alloc_new _ _)) (by simp [Value.oneCell']) (by omega) (by unfold maxLen; omega) (by omega) (by simp; omega) (wc.heap.size + 1) (by simp) ?_); intro g2 cap2 w5 hown5 hgrow hat hlt5; have hG5 := (grown_blk (hr4.alloc _) hgrow hGb (by simp; omega)).trans ((Below.heap_alloc _ _ _ (by omega)).trans HG4.out); have y2 : w5.cell? ⟨G, 2, none⟩ = some (.slice xa L.length xc) := cell_of_row w5 _ 2 _ _ _ hG5; have fG : ∀ j, w5.frozen? ⟨G, j, none⟩ = false := fun j => frozen_of_row w5 _ j _ _ hG5; have HG5 := hid hG5; clear hG5))
    have HN5 : Hid (Only (fun b => b = G ∨ (Value.slice xa L.length xc).ownBlock = some b) w w5) := ((Only.of_below HW4.out).then ((Below.refl _ _).alloc (Nat.le_refl _) _)).grown hgrow (fun k hk _ => .inr hk)
    clear y2 fG z2; have hB6 : (w5.setCell ⟨G, 2, none⟩ (.slice (some ⟨g2, 0, none⟩) (L.length + 1) cap2)).heap[G]? = some (.cells #[.string A, .string B, .slice (some ⟨g2, 0, none⟩) (L.length + 1) cap2] 26) := heap_setCell_same _ _ _ _ _ _ HG5.out
    have hR6 : (w5.setCell ⟨G, 2, none⟩ (.slice (some ⟨g2, 0, none⟩) (L.length + 1) cap2)).ownsRow base 9 1 (.slice (some ⟨g2, 0, none⟩) (L.length + 1) cap2) (L.length + 1) (txts L ++ [.string lx]) := ownsRow_setCell_below hown5 (by exact hGb) _
    have hN6 : Only (fun b => b = G ∨ (Value.slice xa L.length xc).ownBlock = some b) w (w5.setCell ⟨G, 2, none⟩ (.slice (some ⟨g2, 0, none⟩) (L.length + 1) cap2)) := HN5.out.set (b := G) (.inl rfl) _
    generalize (w5.setCell ⟨G, 2, none⟩ (.slice (some ⟨g2, 0, none⟩) (L.length + 1) cap2)) = w6 at hB6 hR6 hN6 ⊢
    have HB6 := hid hB6; have HR6 := hid hR6; have HN6 := hid hN6; clear hB6 hR6 hN6 hown5 hgrow hat hr4; go_wp2; go_ret
    refine ⟨rfl, ⟨A, B, _, L ++ [lx], ⟨HB6.out, HWW.out.a, HWW.out.b, ?_, fun y hy => ?_⟩, by simp⟩, HN6.out⟩
    · have e1 : txts (L ++ [lx]) = txts L ++ [.string lx] := by rw [txts, List.map_append]; rfl
      rw [e1, List.length_append]; exact HR6.out
    · rcases List.mem_append.1 hy with q | q
      · exact HWW.out.txt y q
      · rw [List.mem_singleton.1 q]; exact HLX.out
def givenB (kd : Int) : Bool := decide (kd = 1 ∨ kd = 2 ∨ kd = 3 ∨ kd = 8)
theorem wGiven_any (G base : Nat) (A B : ByteArray) (v : Value) (L : List ByteArray) (kd who nn dr o0 o1 o2 o3 : Int) (tx ty : ByteArray) (cut : Bool) (w : World) (hW : WAt G base A B v L w) (hGb : G < base) (hbase : base ≤ w.heap.size) (hLb : (L.length + 1) * 16 ≤ 140737488355328) (hn : (Lit.int .i64 nn).wf = true) (hdr : (Lit.int .i64 dr).wf = true) (hx : tx.size ≤ maxLen) (hy : ty.size ≤ maxLen) (h : givenB kd = true) :
    Calls Tryz.prog 5 #[.pointer (some ⟨G, 0, none⟩), .agg #[.int .i64 kd, .int .i64 who, .int .i64 nn, .int .i64 dr, .int .i64 o0, .int .i64 o1, .int .i64 o2, .int .i64 o3, .string tx, .string ty, .bool cut]] w fun e w' => e = .returned (.bool true) ∧ WOut G base v L w w' := by
  rw [givenB, decide_eq_true_eq] at h
  rcases h with h | h | h | h
  · exact given_blank G base A B v L kd who nn dr o0 o1 o2 o3 tx ty cut w hW hGb hbase hLb hn hdr hx hy h
  · exact given_bytes G base A B v L kd who nn dr o0 o1 o2 o3 tx ty cut w hW hGb hbase hLb hn hdr hx hy h
  · exact given_poke G base A B v L kd who nn dr o0 o1 o2 o3 tx ty cut w hW hGb hbase hLb hn hdr hx hy h
  · exact given_turn G base A B v L kd who nn dr o0 o1 o2 o3 tx ty cut w hW hGb hbase hLb hn hdr hx hy h
end Go.Proofs.YtabpkohcimiceabGreat
