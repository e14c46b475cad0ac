import Derived.Test.YtabpkohcimiceabGreatAllG
import Derived.WalkKit
import Derived.WalkSpells
import Derived.WalkLawsBesides
import Derived.OwnWalk
import Derived.Laws.Rows
import Derived.Handy
namespace Go.Proofs.YtabpkohcimiceabGreat
open Go.RowKit
set_option linter.unusedVariables false
set_option linter.unusedSimpArgs false

/-! ### pawllaw: step, whole -/

set_option maxRecDepth 100000 in
set_option maxHeartbeats 1000000 in
theorem step_given (G base : Nat) (A B : ByteArray) (v : Value) (L : List ByteArray) (kd who nn dr o0 o1 o2 o3 : Int) (tx ty : ByteArray) (cut : Bool) (w : World) (hW : WAt G base A B v L w) (hGb : G < base) (hbase : base ≤ w.heap.size) (hLb : (L.length + 1) * 16 ≤ 140737488355328) (hn : (Lit.int .i64 nn).wf = true) (hdr : (Lit.int .i64 dr).wf = true) (hx : tx.size ≤ maxLen) (hy : ty.size ≤ maxLen) (hc0 : (Lit.int .i64 o0).wf = true) (hc1 : (Lit.int .i64 o1).wf = true) (hc2 : (Lit.int .i64 o2).wf = true) (hc3 : (Lit.int .i64 o3).wf = true) (h : givenB kd = true) :
    Calls Tryz.prog 4 #[.pointer (some ⟨G, 0, none⟩), .agg #[.int .i64 kd, .int .i64 who, .int .i64 nn, .int .i64 dr, .int .i64 o0, .int .i64 o1, .int .i64 o2, .int .i64 o3, .string tx, .string ty, .bool cut]] w fun e w' => e = .returned (.bool true) ∧ WOut G base v L w w' := by
  have hGlt := hW.lt
  have HWW := hid hW
  have c0 := fun (w0 : World) (hb : w.heap.size ≤ w0.heap.size) (hA : WAt G base A B v L w0) => wGiven_any G base A B v L kd who nn dr o0 o1 o2 o3 tx ty cut w0 hA hGb (by omega) hLb hn hdr hx hy h
  go_enter Tryz.func4, Tryz.ntmps4
  go_upto_region 1 with fail
  have hO := heap_alloc_new w (.cells #[.int .i64 kd, .int .i64 who, .int .i64 nn, .int .i64 dr, .int .i64 o0, .int .i64 o1, .int .i64 o2, .int .i64 o3, .string tx, .string ty, .bool cut] 31)
  have hWa : Below w.heap.size w (w.alloc (.cells #[.int .i64 kd, .int .i64 who, .int .i64 nn, .int .i64 dr, .int .i64 o0, .int .i64 o1, .int .i64 o2, .int .i64 o3, .string tx, .string ty, .bool cut] 31)) := (Below.refl _ _).alloc (Nat.le_refl _) _
  have hlt : w.heap.size < (w.alloc (.cells #[.int .i64 kd, .int .i64 who, .int .i64 nn, .int .i64 dr, .int .i64 o0, .int .i64 o1, .int .i64 o2, .int .i64 o3, .string tx, .string ty, .bool cut] 31)).heap.size := by simp
  generalize (w.alloc (.cells #[.int .i64 kd, .int .i64 who, .int .i64 nn, .int .i64 dr, .int .i64 o0, .int .i64 o1, .int .i64 o2, .int .i64 o3, .string tx, .string ty, .bool cut] 31)) = wa at hO hWa hlt ⊢
  have HO := hid hO
  have HWa := hid hWa
  have HA := hid (hW.next hWa)
  have k0 : wa.cell? ⟨w.heap.size, 0, none⟩ = some (.int .i64 kd) := cell_of_row wa _ 0 _ _ _ hO
  have k1 : wa.cell? ⟨w.heap.size, 1, none⟩ = some (.int .i64 who) := cell_of_row wa _ 1 _ _ _ hO
  have k2 : wa.cell? ⟨w.heap.size, 2, none⟩ = some (.int .i64 nn) := cell_of_row wa _ 2 _ _ _ hO
  have k3 : wa.cell? ⟨w.heap.size, 3, none⟩ = some (.int .i64 dr) := cell_of_row wa _ 3 _ _ _ hO
  have k4 : wa.cell? ⟨w.heap.size, 4, none⟩ = some (.int .i64 o0) := cell_of_row wa _ 4 _ _ _ hO
  have k5 : wa.cell? ⟨w.heap.size, 5, none⟩ = some (.int .i64 o1) := cell_of_row wa _ 5 _ _ _ hO
  have k6 : wa.cell? ⟨w.heap.size, 6, none⟩ = some (.int .i64 o2) := cell_of_row wa _ 6 _ _ _ hO
  have k7 : wa.cell? ⟨w.heap.size, 7, none⟩ = some (.int .i64 o3) := cell_of_row wa _ 7 _ _ _ hO
  have k8 : wa.cell? ⟨w.heap.size, 8, none⟩ = some (.string tx) := cell_of_row wa _ 8 _ _ _ hO
  have k9 : wa.cell? ⟨w.heap.size, 9, none⟩ = some (.string ty) := cell_of_row wa _ 9 _ _ _ hO
  have k10 : wa.cell? ⟨w.heap.size, 10, none⟩ = some (.bool cut) := cell_of_row wa _ 10 _ _ _ hO
  clear hO hWa
  go_wp2_with (first | (go_at_call 5; go_loud (with_reducible refine (c0 _ (by omega) HA.out).mono ?_); rintro e w2 ⟨rfl, ho2⟩; have HO2 := hid ho2; clear ho2))
  go_ret
  exact ⟨rfl, WOut.after HWa.out HO2.out⟩
theorem wStep_any (G base : Nat) (A B : ByteArray) (v : Value) (L : List ByteArray) (kd who nn dr o0 o1 o2 o3 : Int) (tx ty : ByteArray) (cut : Bool) (w : World) (hW : WAt G base A B v L w) (hGb : G < base) (hbase : base ≤ w.heap.size) (hLb : (L.length + 1) * 16 ≤ 140737488355328) (hn : (Lit.int .i64 nn).wf = true) (hdr : (Lit.int .i64 dr).wf = true) (hx : tx.size ≤ maxLen) (hy : ty.size ≤ maxLen) (hc0 : (Lit.int .i64 o0).wf = true) (hc1 : (Lit.int .i64 o1).wf = true) (hc2 : (Lit.int .i64 o2).wf = true) (hc3 : (Lit.int .i64 o3).wf = true)  :
    Calls Tryz.prog 4 #[.pointer (some ⟨G, 0, none⟩), .agg #[.int .i64 kd, .int .i64 who, .int .i64 nn, .int .i64 dr, .int .i64 o0, .int .i64 o1, .int .i64 o2, .int .i64 o3, .string tx, .string ty, .bool cut]] w fun e w' => e = .returned (.bool true) ∧ WOut G base v L w w' := by
  cases h : givenB kd with
  | true => exact step_given G base A B v L kd who nn dr o0 o1 o2 o3 tx ty cut w hW hGb hbase hLb hn hdr hx hy hc0 hc1 hc2 hc3 h
  | false =>
    rw [givenB, decide_eq_false_iff_not] at h
    have h1 : kd ≠ 1 := fun e => h (.inl e)
    have h2 : kd ≠ 2 := fun e => h (.inr (.inl e))
    have h3 : kd ≠ 3 := fun e => h (.inr (.inr (.inl e)))
    have h8 : kd ≠ 8 := fun e => h (.inr (.inr (.inr e)))
    by_cases m4 : kd = 4
    · exact step_create G base A B v L kd who nn dr o0 o1 o2 o3 tx ty cut w hW hGb hbase hLb hn hdr hx hy hc0 hc1 hc2 hc3 h1 h2 h3 h8 m4
    by_cases m10 : kd = 10
    · exact step_recover G base A B v L kd who nn dr o0 o1 o2 o3 tx ty cut w hW hGb hbase hLb hn hdr hx hy hc0 hc1 hc2 hc3 h1 h2 h3 h8 m10
    by_cases m5 : kd = 5
    · exact step_send G base A B v L kd who nn dr o0 o1 o2 o3 tx ty cut w hW hGb hbase hLb hn hdr hx hy hc0 hc1 hc2 hc3 h1 h2 h3 h8 m5
    by_cases m6 : kd = 6
    · exact step_receive G base A B v L kd who nn dr o0 o1 o2 o3 tx ty cut w hW hGb hbase hLb hn hdr hx hy hc0 hc1 hc2 hc3 h1 h2 h3 h8 m6
    by_cases m7 : kd = 7
    · exact step_raw G base A B v L kd who nn dr o0 o1 o2 o3 tx ty cut w hW hGb hbase hLb hn hdr hx hy hc0 hc1 hc2 hc3 h1 h2 h3 h8 m7
    by_cases m9 : kd = 9
    · exact step_look G base A B v L kd who nn dr o0 o1 o2 o3 tx ty cut w hW hGb hbase hLb hn hdr hx hy hc0 hc1 hc2 hc3 h1 h2 h3 h8 m9
    by_cases m11 : kd = 11
    · exact step_plan G base A B v L kd who nn dr o0 o1 o2 o3 tx ty cut w hW hGb hbase hLb hn hdr hx hy hc0 hc1 hc2 hc3 h1 h2 h3 h8 m11
    by_cases m12 : kd = 12
    · exact step_mix G base A B v L kd who nn dr o0 o1 o2 o3 tx ty cut w hW hGb hbase hLb hn hdr hx hy hc0 hc1 hc2 hc3 h1 h2 h3 h8 m12
    by_cases m13 : kd = 13
    · exact step_power G base A B v L kd who nn dr o0 o1 o2 o3 tx ty cut w hW hGb hbase hLb hn hdr hx hy hc0 hc1 hc2 hc3 h1 h2 h3 h8 m13
    by_cases m14 : kd = 14
    · exact step_seal G base A B v L kd who nn dr o0 o1 o2 o3 tx ty cut w hW hGb hbase hLb hn hdr hx hy hc0 hc1 hc2 hc3 h1 h2 h3 h8 m14
    exact step_none G base A B v L kd who nn dr o0 o1 o2 o3 tx ty cut w hW hGb hbase hLb hn hdr hx hy hc0 hc1 hc2 hc3 h1 h2 h3 h8 m4 m10 m5 m6 m7 m9 m11 m12 m13 m14

/-! ### pawllaw.All -/
structure OpM where
  kd : Int
  who : Int
  nn : Int
  dr : Int
  o0 : Int
  o1 : Int
  o2 : Int
  o3 : Int
  tx : ByteArray
  ty : ByteArray
  cut : Bool
def opZ : OpM := ⟨0, 0, 0, 0, 0, 0, 0, 0, ⟨#[]⟩, ⟨#[]⟩, false⟩
def opC (o : OpM) : List Value := [.int .i64 o.kd, .int .i64 o.who, .int .i64 o.nn, .int .i64 o.dr, .int .i64 o.o0, .int .i64 o.o1, .int .i64 o.o2, .int .i64 o.o3, .string o.tx, .string o.ty, .bool o.cut]
structure OpOk (o : OpM) : Prop where
  nn : (Lit.int .i64 o.nn).wf = true
  dr : (Lit.int .i64 o.dr).wf = true
  o0 : (Lit.int .i64 o.o0).wf = true
  o1 : (Lit.int .i64 o.o1).wf = true
  o2 : (Lit.int .i64 o.o2).wf = true
  o3 : (Lit.int .i64 o.o3).wf = true
  tx : o.tx.size ≤ maxLen
  ty : o.ty.size ≤ maxLen
def OpsAt (w : World) (v : Value) (l : List OpM) : Prop := (l = [] ∧ ∃ a c, v = .slice a 0 c) ∨ ∃ b off cap, v = .slice (some ⟨b, off, none⟩) l.length cap ∧ b < w.heap.size ∧ ∀ i, i < l.length → ∀ j, j < 11 → w.cell? ⟨b, off + i * 11 + j, none⟩ = (opC (l.getD i opZ))[j]?
theorem OpsAt.form {w : World} {v : Value} {l : List OpM} (h : OpsAt w v l) : ∃ a c, v = .slice a l.length c := by
  rcases h with ⟨h1, a, c, h2⟩ | ⟨b, off, cap, h1, _⟩
  · exact ⟨a, c, by rw [h1, h2]; rfl⟩
  · exact ⟨_, _, h1⟩
theorem OpsAt.only {S : Nat → Prop} {w w' : World} {v : Value} {l : List OpM} (h : OpsAt w v l) (ho : Only S w w') (hs : l ≠ [] → ∀ k, v.ownBlock = some k → ¬ S k) : OpsAt w' v l := by
  rcases h with h | ⟨b, off, cap, h1, h2, h3⟩
  · exact .inl h
  · by_cases hne : l = []
    · exact .inl ⟨hne, _, _, by rw [h1, hne]; rfl⟩
    have hb := ho.block b h2 (hs hne b (by rw [h1]; rfl))
    refine .inr ⟨b, off, cap, h1, Nat.lt_of_lt_of_le h2 ho.size, fun i hi j hj => ?_⟩
    have := h3 i hi j hj
    unfold World.cell? at this ⊢
    rw [hb]; exact this

set_option maxRecDepth 100000 in
set_option maxHeartbeats 1000000 in
theorem all_walk (v : Value) (l : List OpM) (w : World) (hv : OpsAt w v l) (hl : l.length * 16 ≤ 140737488355328) (hok : ∀ o ∈ l, OpOk o) :
    Calls Tryz.prog 3 #[v] w fun e w' => e = .returned (.bool true) ∧ Below w.heap.size w w' := by
  obtain ⟨av, ac, hvf⟩ := hv.form
  subst hvf
  have HVB : Hid (l ≠ [] → ∀ q, (Value.slice av l.length ac).ownBlock = some q → q < w.heap.size) := by
    intro hne q hq
    rcases hv with ⟨h1, _⟩ | ⟨b, off, cap, h1, h2, _⟩
    · exact absurd h1 hne
    · rw [h1] at hq
      have : b = q := Option.some.inj hq
      omega
  have HOK := hid hok
  clear hok
  go_enter Tryz.func3, Tryz.ntmps3
  go_upto_region 2 with fail
  have hG := heap_alloc_new w (.cells #[.string ⟨#[]⟩, .string ⟨#[]⟩, .slice none 0 0] 26)
  have hA : Below w.heap.size w (w.alloc (.cells #[.string ⟨#[]⟩, .string ⟨#[]⟩, .slice none 0 0] 26)) := (Below.refl _ _).alloc (Nat.le_refl _) _
  have hGl : w.heap.size < (w.alloc (.cells #[.string ⟨#[]⟩, .string ⟨#[]⟩, .slice none 0 0] 26)).heap.size := by simp
  have hV1 : OpsAt (w.alloc (.cells #[.string ⟨#[]⟩, .string ⟨#[]⟩, .slice none 0 0] 26)) (.slice av l.length ac) l := hv.only (S := fun _ => False) (Only.of_below hA) (fun _ _ _ q => q)
  generalize (w.alloc (.cells #[.string ⟨#[]⟩, .string ⟨#[]⟩, .slice none 0 0] 26)) = wa at hG hA hGl hV1 ⊢
  have hW1 : WAt w.heap.size (w.heap.size + 1) ⟨#[]⟩ ⟨#[]⟩ (.slice none 0 0) [] wa := ⟨hG, by decide, by decide, World.ownsRow_nil _ _ _ _, fun x hx => by simp at hx⟩
  have HV1 := hid hV1
  have HW1 := hid hW1
  have HA := hid hA
  clear hG hA hV1 hW1 hv
  go_wp2
  go_loopg [4, 5] (l.length + 1) (fun fu c x5 wx => ∃ (j : Nat) (A B : ByteArray) (vv : Value) (L : List ByteArray), c = .int .i64 j ∧ j ≤ l.length ∧ fu + j = l.length + 1 ∧ L.length ≤ j ∧ WAt w.heap.size (w.heap.size + 1) A B vv L wx ∧ OpsAt wx (.slice av l.length ac) l ∧ Below w.heap.size w wx)
  case atStart => exact ⟨0, ⟨#[]⟩, ⟨#[]⟩, _, [], rfl, by omega, by omega, Nat.le_refl _, HW1.out, HV1.out, HA.out⟩
  case round =>
    clear HV1 HW1 HA
    obtain ⟨j, A, B, vv, L, rfl, hj, hfu, hLj, hW, hVx, hbx⟩ := hrel
    have hsx := hbx.size
    have hglt := hW.lt
    by_cases hlt : j < l.length
    · obtain ⟨ob, off, ocap, hov, hobl, hoc⟩ : ∃ ob off ocap, Value.slice av l.length ac = .slice (some ⟨ob, off, none⟩) l.length ocap ∧ ob < wr.heap.size ∧ ∀ q, q < 11 → wr.cell? ⟨ob, off + j * 11 + q, none⟩ = (opC (l.getD j opZ))[q]? := by
        rcases hVx with ⟨q, _⟩ | ⟨ob, off, ocap, q1, q2, q3⟩
        · rw [q] at hlt; simp at hlt
        · exact ⟨ob, off, ocap, q1, q2, q3 j hlt⟩
      injection hov with o1 o2 o3
      subst o1 o3
      have hne : l ≠ [] := fun e => by rw [e] at hlt; simp at hlt
      have hoo := HOK.out (l.getD j opZ) (by rw [List.getD_eq_getElem?_getD, List.getElem?_eq_getElem hlt]; exact List.getElem_mem hlt)
      generalize l.getD j opZ = oo at *
      obtain ⟨kd, who, nn, dr, o0, o1, o2, o3, tx, ty, cut⟩ := oo
      have hobG : ob < w.heap.size := HVB.out hne ob rfl
      have k0 : wr.cell? ⟨ob, off + j * 11 + 0, none⟩ = some (.int .i64 kd) := hoc 0 (by omega)
      have k1 : wr.cell? ⟨ob, off + j * 11 + 1, none⟩ = some (.int .i64 who) := hoc 1 (by omega)
      have k2 : wr.cell? ⟨ob, off + j * 11 + 2, none⟩ = some (.int .i64 nn) := hoc 2 (by omega)
      have k3 : wr.cell? ⟨ob, off + j * 11 + 3, none⟩ = some (.int .i64 dr) := hoc 3 (by omega)
      have k4 : wr.cell? ⟨ob, off + j * 11 + 4, none⟩ = some (.int .i64 o0) := hoc 4 (by omega)
      have k5 : wr.cell? ⟨ob, off + j * 11 + 5, none⟩ = some (.int .i64 o1) := hoc 5 (by omega)
      have k6 : wr.cell? ⟨ob, off + j * 11 + 6, none⟩ = some (.int .i64 o2) := hoc 6 (by omega)
      have k7 : wr.cell? ⟨ob, off + j * 11 + 7, none⟩ = some (.int .i64 o3) := hoc 7 (by omega)
      have k8 : wr.cell? ⟨ob, off + j * 11 + 8, none⟩ = some (.string tx) := hoc 8 (by omega)
      have k9 : wr.cell? ⟨ob, off + j * 11 + 9, none⟩ = some (.string ty) := hoc 9 (by omega)
      have k10 : wr.cell? ⟨ob, off + j * 11 + 10, none⟩ = some (.bool cut) := hoc 10 (by omega)
      have k00 : wr.cell? ⟨ob, off + j * 11, none⟩ = some (.int .i64 kd) := hoc 0 (by omega)
      have c1 := wStep_any w.heap.size (w.heap.size + 1) A B vv L kd who nn dr o0 o1 o2 o3 tx ty cut wr hW (by omega) (by omega) (by omega) hoo.nn hoo.dr hoo.tx hoo.ty hoo.o0 hoo.o1 hoo.o2 hoo.o3
      have hjl : (j : Int) < (l.length : Int) := by omega
      have hj0 : (0 : Int) ≤ (j : Int) := by omega
      have HVX := hid hVx
      have HBX := hid hbx
      have HRO : Hid (∀ k, vv.ownBlock = some k → w.heap.size + 1 ≤ k) := fun k q => (hW.row.lt k q).1
      clear hoc hVx hbx hW hoo
      go_wp2_with (first | (go_at_call 4; go_loud (with_reducible refine c1.mono ?_); rintro e w2 ⟨rfl, ho2⟩; have HO2 := hid ho2; clear ho2))
      go_roundg (gk - 1)
      case measure => omega
      case rel =>
        obtain ⟨⟨A', B', v', L', hW', hL'⟩, hN⟩ := HO2.out
        have hS : ∀ k, (k = w.heap.size ∨ vv.ownBlock = some k) → w.heap.size ≤ k := by
          rintro k (q | q)
          · omega
          · have := HRO.out k q; omega
        refine ⟨j + 1, A', B', v', L', by simp, by omega, by omega, by omega, hW', HVX.out.only hN (fun hne q hq h => ?_), HBX.out.trans (hN.below hsx hS)⟩
        have := HVB.out hne q hq
        have := hS q h
        omega
    · obtain rfl : j = l.length := by omega
      have HBX := hid hbx
      clear hW hVx hbx
      go_wp2
      go_ret
      exact ⟨rfl, HBX.out⟩
end Go.Proofs.YtabpkohcimiceabGreat
