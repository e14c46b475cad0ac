import Derived.Test.YtabpkohcimiceabWriX
namespace Go.Proofs.Ytabpkohcimiceab
set_option maxRecDepth 100000
set_option maxHeartbeats 1000000
open Go.RowKit
set_option linter.unusedVariables false
set_option linter.unusedSimpArgs false
theorem ltRow7 {w : World} {base : Nat} {e : TypeId} {g cap : Nat} {L : List LtM} (h : w.ownsRow base e 7 (.slice (some ⟨g, 0, none⟩) L.length cap) L.length (ltsC L)) {i : Nat} (hi : i < L.length) : ∀ j, j < 7 → w.cell? ⟨g, i * 7 + j, none⟩ = (ltC (L.getD i ltZ))[j]? := fun j hj => by
  rw [h.cellAt (i * 7 + j) (by omega), ltsC_at L i hi j hj]
theorem take_none (P Q : Nat) (dq : ByteArray) (e1 e2 e3 e4 e5 e6 e7 e8 e9 e10 : Value) (xv : Option Addr) (xc : Nat) (kd who pn dr f0 f1 : Int) (tx k1 k2 : ByteArray) (cut : Bool) (w : World) (hQ : w.heap[Q]? = some (.cells #[.string dq, e1, e2, e3, e4, e5, e6, e7, e8, e9, e10, .slice xv 0 xc] 41)) (hQlt : Q < w.heap.size) :
    Calls Try.prog 18 #[.pointer (some ⟨P, 0, none⟩), .pointer (some ⟨Q, 0, none⟩), .agg #[.int .i64 kd, .int .i64 who, .int .i64 pn, .int .i64 dr, .string tx, .bool cut, .int .i64 f0, .int .i64 f1, .string k1, .string k2]] w fun e w' => e = .returned (.bool true) ∧ Below w.heap.size w w' := by
  go_enter Try.func18, Try.ntmps18
  go_upto_region 1 with fail
  have hWa : Below w.heap.size w (w.alloc (.cells #[.int .i64 kd, .int .i64 who, .int .i64 pn, .int .i64 dr, .string tx, .bool cut, .int .i64 f0, .int .i64 f1, .string k1, .string k2] 34)) := (Below.refl _ _).alloc (Nat.le_refl _) _
  generalize (w.alloc (.cells #[.int .i64 kd, .int .i64 who, .int .i64 pn, .int .i64 dr, .string tx, .bool cut, .int .i64 f0, .int .i64 f1, .string k1, .string k2] 34)) = wa at hWa ⊢
  have q11 : wa.cell? ⟨Q, 11, none⟩ = some (.slice xv 0 xc) := cell_of_row wa _ 11 _ _ _ ((hWa.block Q hQlt).trans hQ); have HWa := hid hWa; clear hWa hQ; go_wp2; go_ret; exact ⟨rfl, HWa.out⟩
set_option maxHeartbeats 4000000 in
theorem take_err (P Q base : Nat) (d dq : ByteArray) (s : StM) (pe : Int) (aa : Option Addr) (cc : Nat) (pl : Value) (e1 e2 e3 e4 e5 e6 e7 e8 e9 e10 : Value) (xv : Option Addr) (xn xc : Nat) (L : List LtM) (lx : LtM) (i : Nat) (pub dn : Nat) (kd who pn dr f0 f1 : Int) (tx k1 k2 : ByteArray) (k : Nat) (w : World) (hP : w.heap[P]? = some (.cells #[.string d, .int .i64 s.role, .int .i64 s.step, .int .i64 s.sent, .int .i64 s.got, .int .i64 s.prev, .int .i64 s.skip, .int .i64 s.cap, .int .i64 s.secret, .int .i64 pe, .slice aa s.kept.length cc, pl] 41)) (hQ : w.heap[Q]? = some (.cells #[.string dq, e1, e2, e3, e4, e5, e6, e7, e8, e9, e10, .slice xv xn xc] 41)) (hrow : w.ownsRow base 63 7 (.slice xv xn xc) L.length (ltsC L)) (hPb : P < base) (hQb : Q < base) (hPQ : P ≠ Q) (hbase : base ≤ w.heap.size) (hL : L.length ≤ 2000) (hi : i < L.length) (hlx : (L.getD i ltZ) = lx) (hpi : pickN pn (L.length : Int) = (i : Int)) (hpn : (-9223372036854775808 ≤ pn ∧ pn ≤ 9223372036854775807)) (hdr : (-9223372036854775808 ≤ dr ∧ dr ≤ 9223372036854775807)) (hdn : secN dr = (dn : Int)) (hbs : lx.bytes.length ≤ 1000) (hg : GoodD d.data.toList k) (hv : IdsAt w (.slice aa s.kept.length cc) s.kept) (hq : LawQ s) (hkc : s.kept.length ≤ s.cap) (hf : ¬ (s.step + 1 < lx.step ∨ lx.step % 2 = s.step % 2)) (h1 : 1 ≤ lx.step) (hc : lx.count ≤ 49) (hp : lx.prev ≤ 50) (cut : Bool) (E : Int) (herr : recvErr d.data.toList lx.bytes (dn : Int) = E) (hE : E ≠ 0) (hke : (keyR s (letQ lx.step lx.count lx.prev pub) dn).1 = E) :
    Calls Try.prog 18 #[.pointer (some ⟨P, 0, none⟩), .pointer (some ⟨Q, 0, none⟩), .agg #[.int .i64 kd, .int .i64 who, .int .i64 pn, .int .i64 dr, .string tx, .bool cut, .int .i64 f0, .int .i64 f1, .string k1, .string k2]] w fun e w' => e = .returned (.bool true) ∧ Below w.heap.size w w' := by
  have hds : d.size = k * 32 := by rw [← len_list]; exact hg.len
  have hk2 := hg.k2; have hk1 := hg.k1
  have hdm : d.size ≤ maxLen := by unfold maxLen; omega
  have hbm : (str lx.bytes).size ≤ maxLen := by rw [str_size]; unfold maxLen; omega
  obtain ⟨g, cap, hxv, hgb, _⟩ := ltRow hrow hi
  injection hxv with x1 x2 x3
  subst x1 x2 x3; have hz := ltRow7 hrow hi
  rw [hlx] at hz
  have hz : ∀ j, j < 7 → w.cell? ⟨g, i * 7 + j, none⟩ = [.string (str lx.bytes), .string (str lx.text), .int .i64 lx.step, .int .i64 lx.count, .int .i64 lx.prev, .int .i64 lx.secret, .bool lx.out][j]? := hz; have hglt : g < w.heap.size := (hrow.lt g rfl).2
  have hgP : g ≠ P := by omega
  have hgQ : g ≠ Q := by omega
  have hPlt : P < w.heap.size := by omega
  have hQlt : Q < w.heap.size := by omega
  have hiL : (i : Int) < (L.length : Int) := by omega
  have hi0 : (0 : Int) ≤ (i : Int) := by omega
  have hL0 : ((L.length : Int) == 0) = false := by rw [beq_eq_false_iff_ne]; omega
  have c0 := fun w => pick_any pn (L.length : Int) w hpn.1 hpn.2 (by omega) (by omega)
  rw [hpi] at c0
  have c1 := fun w => secretOf_any dr w hdr.1 hdr.2
  rw [hdn] at c1
  have c2 := fun w => pawlReceive_any d (str lx.bytes) (dn : Int) w hdm hbm
  rw [str_toList] at c2
  have c3 := fun w hv => mayTake_any s pe aa cc lx pub dn w hv hq hkc hf h1 hc hp
  have HLX : Hid (L.getD i ltZ = lx) := hlx
  have t1 : recvTxt d.data.toList lx.bytes (dn : Int) = [] := by rw [recvTxt, if_neg (by rw [herr]; exact hE)]
  have t2 : recvPlan d.data.toList lx.bytes (dn : Int) = [] := by rw [recvPlan, if_neg (by rw [herr]; exact hE)]
  rw [herr, t1, t2] at c2
  have c2' : ∀ w, Calls Try.prog 26 #[.string d, .string (str lx.bytes), .int .i64 dn] w fun e w' => e = .returned (.tuple #[.string ⟨#[]⟩, .string ⟨#[]⟩, .int .i64 E]) ∧ Below w.heap.size w w' := c2
  have c3' : ∀ w, IdsAt w (.slice aa s.kept.length cc) s.kept → Calls Try.prog 31 #[.agg #[.int .i64 s.role, .int .i64 s.step, .int .i64 s.sent, .int .i64 s.got, .int .i64 s.prev, .int .i64 s.skip, .int .i64 s.cap, .int .i64 s.secret, .int .i64 pe, .slice aa s.kept.length cc], .agg #[.string (str lx.bytes), .string (str lx.text), .int .i64 lx.step, .int .i64 lx.count, .int .i64 lx.prev, .int .i64 lx.secret, .bool lx.out], .int .i64 dn] w fun e w' => e = .returned (.tuple #[.agg #[.int .i64 s.role, .int .i64 s.step, .int .i64 s.sent, .int .i64 s.got, .int .i64 s.prev, .int .i64 s.skip, .int .i64 s.cap, .int .i64 s.secret, .int .i64 pe, .slice aa s.kept.length cc], .int .i64 E]) ∧ Below w.heap.size w w' := by
    intro w hv
    refine (c3 w hv).mono ?_
    rintro e w' ⟨ho, hb⟩
    refine ⟨?_, hb⟩
    rcases ho with ⟨_, ho⟩ | ⟨ho, _⟩
    · rw [hke] at ho; exact ho
    · rw [hke] at ho; exact absurd ho hE
  have hEb : (E == 0) = false := by rw [beq_eq_false_iff_ne]; exact hE
  clear c2 c3 t1 t2 herr hke hE; have c2 := c2'; have c3 := c3'; clear c2' c3'
  generalize str lx.bytes = by0 at *
  generalize str lx.text = tx0 at *
  clear hlx hpi hpn hdr hdn hbs hg hq hkc hf h1 hc hp hbm hdm
  go_enter Try.func18, Try.ntmps18
  go_upto_region 1 with fail
  obtain ⟨ob, eob⟩ : ∃ ob, ob = Obj.cells #[.int .i64 kd, .int .i64 who, .int .i64 pn, .int .i64 dr, .string tx, .bool cut, .int .i64 f0, .int .i64 f1, .string k1, .string k2] 34 := ⟨_, rfl⟩
  rw [← eob]; have hO := heap_alloc_new w ob; have hWa : Below w.heap.size w (w.alloc ob) := (Below.refl _ _).alloc (Nat.le_refl _) _
  have hlt : w.heap.size < (w.alloc ob).heap.size := by simp
  generalize (w.alloc ob) = wa at hO hWa hlt ⊢
  subst eob; have HPa := hid ((hWa.block P hPlt).trans hP); have HQa := hid ((hWa.block Q hQlt).trans hQ); have HRa := hid (ownsRow_below hrow hWa); have HO := hid hO; have HWa := hid hWa; have HVa := hid (hv.next hWa)
  have HZ : Hid (∀ j, j < 7 → wa.cell? ⟨g, i * 7 + j, none⟩ = [.string by0, .string tx0, .int .i64 lx.step, .int .i64 lx.count, .int .i64 lx.prev, .int .i64 lx.secret, .bool lx.out][j]?) := fun j hj => (hWa.cell (p := ⟨g, i * 7 + j, none⟩) hglt).trans (hz j hj)
  have o2 : wa.cell? ⟨w.heap.size, 2, none⟩ = some (.int .i64 pn) := cell_of_row wa _ 2 _ _ _ hO; have q11 : wa.cell? ⟨Q, 11, none⟩ = some (.slice (some ⟨g, 0, none⟩) L.length xc) := cell_of_row wa _ 11 _ _ _ HQa.out; clear hO hWa hP hQ hrow hv hz
  go_upto_region 3 with fail
  go_cut [7] (fun x wx => x = .int .i64 i ∧ Below wa.heap.size wa wx)
  case first =>
    go_quiet (first | (go_at_call 12; exact Calls.quiet_of_same (c0 _)))
    all_goals (go_wp2_with fail)
    all_goals go_meet
    all_goals exact ⟨rfl, ⟨rfl, rfl, rfl, Nat.le_refl _, fun _ _ => rfl⟩⟩
  case rest =>
    obtain ⟨rfl, hb2⟩ := hcut; have hsz2 := hb2.size
    have HP2 := hid ((hb2.block P (by omega)).trans HPa.out)
    have HQ2 := hid ((hb2.block Q (by omega)).trans HQa.out)
    have HR2 := hid (ownsRow_below HRa.out hb2); have HO2 := hid ((hb2.block w.heap.size hlt).trans HO.out); have HW2 := hid (below_tr HWa.out hb2); have HV2 := hid (HVa.out.next hb2)
    have z0 : wc.cell? ⟨g, i * 7, none⟩ = some (.string by0) := (hb2.cell (p := ⟨g, i * 7, none⟩) (by show g < wa.heap.size; omega)).trans (HZ.out 0 (by omega))
    have z1 : wc.cell? ⟨g, i * 7 + 1, none⟩ = some (.string tx0) := (hb2.cell (p := ⟨g, i * 7 + 1, none⟩) (by show g < wa.heap.size; omega)).trans (HZ.out 1 (by omega))
    have z2 : wc.cell? ⟨g, i * 7 + 2, none⟩ = some (.int .i64 lx.step) := (hb2.cell (p := ⟨g, i * 7 + 2, none⟩) (by show g < wa.heap.size; omega)).trans (HZ.out 2 (by omega))
    have z3 : wc.cell? ⟨g, i * 7 + 3, none⟩ = some (.int .i64 lx.count) := (hb2.cell (p := ⟨g, i * 7 + 3, none⟩) (by show g < wa.heap.size; omega)).trans (HZ.out 3 (by omega))
    have z4 : wc.cell? ⟨g, i * 7 + 4, none⟩ = some (.int .i64 lx.prev) := (hb2.cell (p := ⟨g, i * 7 + 4, none⟩) (by show g < wa.heap.size; omega)).trans (HZ.out 4 (by omega))
    have z5 : wc.cell? ⟨g, i * 7 + 5, none⟩ = some (.int .i64 lx.secret) := (hb2.cell (p := ⟨g, i * 7 + 5, none⟩) (by show g < wa.heap.size; omega)).trans (HZ.out 5 (by omega))
    have z6 : wc.cell? ⟨g, i * 7 + 6, none⟩ = some (.bool lx.out) := (hb2.cell (p := ⟨g, i * 7 + 6, none⟩) (by show g < wa.heap.size; omega)).trans (HZ.out 6 (by omega))
    have q11' : wc.cell? ⟨Q, 11, none⟩ = some (.slice (some ⟨g, 0, none⟩) L.length xc) := cell_of_row wc _ 11 _ _ _ HQ2.out; clear o2 q11 hb2 HPa HQa HRa HO HWa HVa HZ c0
    go_upto_region 5 with fail
    have hLB := heap_alloc_new wc (.cells #[.string by0, .string tx0, .int .i64 lx.step, .int .i64 lx.count, .int .i64 lx.prev, .int .i64 lx.secret, .bool lx.out] 63); have hb3 : Below wc.heap.size wc (wc.alloc (.cells #[.string by0, .string tx0, .int .i64 lx.step, .int .i64 lx.count, .int .i64 lx.prev, .int .i64 lx.secret, .bool lx.out] 63)) := (Below.refl _ _).alloc (Nat.le_refl _) _
    have hlt3 : wc.heap.size < (wc.alloc (.cells #[.string by0, .string tx0, .int .i64 lx.step, .int .i64 lx.count, .int .i64 lx.prev, .int .i64 lx.secret, .bool lx.out] 63)).heap.size := by simp
    clear z0 z1 z2 z3 z4 z5 z6 q11'
    generalize (wc.alloc (.cells #[.string by0, .string tx0, .int .i64 lx.step, .int .i64 lx.count, .int .i64 lx.prev, .int .i64 lx.secret, .bool lx.out] 63)) = w3 at hLB hb3 hlt3 ⊢
    obtain ⟨LB, hLBe⟩ : ∃ LB, LB = wc.heap.size := ⟨_, rfl⟩
    have HLE := hid hLBe
    rw [← hLBe] at hLB hlt3 ⊢
    have hLBw : w.heap.size < LB := by rw [hLBe]; omega
    have HP3 := hid ((hb3.block P (by omega)).trans HP2.out)
    have HQ3 := hid ((hb3.block Q (by omega)).trans HQ2.out)
    have HR3 := hid (ownsRow_below HR2.out hb3)
    have HO3 := hid ((hb3.block w.heap.size (by omega)).trans HO2.out)
    have HW3 := hid (below_tr HW2.out hb3); have HV3 := hid (HV2.out.next hb3); have HL3 := hid hLB; have o3 : w3.cell? ⟨w.heap.size, 3, none⟩ = some (.int .i64 dr) := cell_of_row w3 _ 3 _ _ _ HO3.out; have p0 : w3.cell? ⟨P, 0, none⟩ = some (.string d) := cell_of_row w3 _ 0 _ _ _ HP3.out; have l0 : w3.cell? ⟨LB, 0, none⟩ = some (.string by0) := cell_of_row w3 _ 0 _ _ _ hLB; clear hLB hb3 hLBe HP2 HQ2 HR2 HO2 HW2 HV2
    go_upto_region 6 with (first | (go_at_call 10; go_must (with_reducible refine (c1 _).mono ?_); rintro e w' ⟨rfl, hw⟩; rw [hw]; clear hw w'))
    go_cut [10, 11, 12] (fun x y z wx => x = .string ⟨#[]⟩ ∧ y = .string ⟨#[]⟩ ∧ z = .int .i64 E ∧ Below w3.heap.size w3 wx)
    case first =>
      go_region_held3 (fun w' => w'.cell? ⟨P, 0, none⟩ = some (.string d) ∧ w'.cell? ⟨LB, 0, none⟩ = some (.string by0)) (first | (simp [p0, l0]; done) | (simp [g0, gl]; done)) (first | (go_at_call 26; go_must (with_reducible refine (c2 _).mono ?_); rintro e w4 ⟨rfl, hb4⟩; have hb4x : Below w3.heap.size w3 w4 := ⟨hb4.os, hb4.tape, hb4.output, hb4.size, hb4.block⟩; have g0 : w4.cell? ⟨P, 0, none⟩ = some (.string d) := cell_of_row w4 _ 0 _ _ _ ((hb4x.block P (by omega)).trans HP3.out); have gl : w4.cell? ⟨LB, 0, none⟩ = some (.string by0) := cell_of_row w4 _ 0 _ _ _ ((hb4x.block LB hlt3).trans HL3.out)))
      all_goals (go_wp2_with fail)
      all_goals go_meet
      all_goals exact ⟨rfl, rfl, rfl, ⟨hb4x.os, hb4x.tape, hb4x.output, hb4x.size, hb4x.block⟩⟩
    case rest =>
      obtain ⟨rfl, rfl, rfl, hb4⟩ := hcut; clear o3 p0 l0 c1 c2; have hsz4 := hb4.size
      have HP4 := hid ((hb4.block P (by omega)).trans HP3.out)
      have HQ4 := hid ((hb4.block Q (by omega)).trans HQ3.out)
      have HR4 := hid (ownsRow_below HR3.out hb4)
      have HO4 := hid ((hb4.block w.heap.size (by omega)).trans HO3.out)
      have HW4 := hid (below_tr HW3.out hb4); have HV4 := hid (HV3.out.next hb4); have HL4 := hid ((hb4.block LB hlt3).trans HL3.out)
      have hlt4 : LB < wc.heap.size := by omega
      have hPc4 : P < wc.heap.size := by omega
      have hn1 : ¬ wc.heap.size = P := by omega
      have hn2 : ¬ P = wc.heap.size := by omega
      have hn3 : ¬ wc.heap.size = LB := by omega
      have hn4 : ¬ LB = wc.heap.size := by omega
      clear hb4 HP3 HQ3 HR3 HO3 HW3 HV3 HL3 hlt3; have p0 : wc.cell? ⟨P, 0, none⟩ = some (.string d) := cell_of_row wc _ 0 _ _ _ HP4.out; have p1 : wc.cell? ⟨P, 1, none⟩ = some (.int .i64 s.role) := cell_of_row wc _ 1 _ _ _ HP4.out; have p2 : wc.cell? ⟨P, 2, none⟩ = some (.int .i64 s.step) := cell_of_row wc _ 2 _ _ _ HP4.out; have p3 : wc.cell? ⟨P, 3, none⟩ = some (.int .i64 s.sent) := cell_of_row wc _ 3 _ _ _ HP4.out; have p4 : wc.cell? ⟨P, 4, none⟩ = some (.int .i64 s.got) := cell_of_row wc _ 4 _ _ _ HP4.out; have p5 : wc.cell? ⟨P, 5, none⟩ = some (.int .i64 s.prev) := cell_of_row wc _ 5 _ _ _ HP4.out; have p6 : wc.cell? ⟨P, 6, none⟩ = some (.int .i64 s.skip) := cell_of_row wc _ 6 _ _ _ HP4.out; have p7 : wc.cell? ⟨P, 7, none⟩ = some (.int .i64 s.cap) := cell_of_row wc _ 7 _ _ _ HP4.out; have p8 : wc.cell? ⟨P, 8, none⟩ = some (.int .i64 s.secret) := cell_of_row wc _ 8 _ _ _ HP4.out; have p9 : wc.cell? ⟨P, 9, none⟩ = some (.int .i64 pe) := cell_of_row wc _ 9 _ _ _ HP4.out; have p10 : wc.cell? ⟨P, 10, none⟩ = some (.slice aa s.kept.length cc) := cell_of_row wc _ 10 _ _ _ HP4.out; have p11 : wc.cell? ⟨P, 11, none⟩ = some (pl) := cell_of_row wc _ 11 _ _ _ HP4.out; have l0 : wc.cell? ⟨LB, 0, none⟩ = some (.string by0) := cell_of_row wc _ 0 _ _ _ HL4.out; have l1 : wc.cell? ⟨LB, 1, none⟩ = some (.string tx0) := cell_of_row wc _ 1 _ _ _ HL4.out; have l2 : wc.cell? ⟨LB, 2, none⟩ = some (.int .i64 lx.step) := cell_of_row wc _ 2 _ _ _ HL4.out; have l3 : wc.cell? ⟨LB, 3, none⟩ = some (.int .i64 lx.count) := cell_of_row wc _ 3 _ _ _ HL4.out; have l4 : wc.cell? ⟨LB, 4, none⟩ = some (.int .i64 lx.prev) := cell_of_row wc _ 4 _ _ _ HL4.out; have l5 : wc.cell? ⟨LB, 5, none⟩ = some (.int .i64 lx.secret) := cell_of_row wc _ 5 _ _ _ HL4.out; have l6 : wc.cell? ⟨LB, 6, none⟩ = some (.bool lx.out) := cell_of_row wc _ 6 _ _ _ HL4.out
      go_upto_region 7 with fail
      go_cut [13, 14] (fun x y wx => (∃ B : Nat, x = .pointer (some ⟨B, 0, none⟩) ∧ y = .int .i64 E) ∧ Below wc.heap.size wc wx)
      case first =>
        go_region_held3 (fun w' => w'.cell? ⟨P, 1, none⟩ = some (.int .i64 s.role) ∧ w'.cell? ⟨P, 2, none⟩ = some (.int .i64 s.step) ∧ w'.cell? ⟨P, 3, none⟩ = some (.int .i64 s.sent) ∧ w'.cell? ⟨P, 4, none⟩ = some (.int .i64 s.got) ∧ w'.cell? ⟨P, 5, none⟩ = some (.int .i64 s.prev) ∧ w'.cell? ⟨P, 6, none⟩ = some (.int .i64 s.skip) ∧ w'.cell? ⟨P, 7, none⟩ = some (.int .i64 s.cap) ∧ w'.cell? ⟨P, 8, none⟩ = some (.int .i64 s.secret) ∧ w'.cell? ⟨P, 9, none⟩ = some (.int .i64 pe) ∧ w'.cell? ⟨P, 10, none⟩ = some (.slice aa s.kept.length cc) ∧ w'.cell? ⟨LB, 0, none⟩ = some (.string by0) ∧ w'.cell? ⟨LB, 1, none⟩ = some (.string tx0) ∧ w'.cell? ⟨LB, 2, none⟩ = some (.int .i64 lx.step) ∧ w'.cell? ⟨LB, 3, none⟩ = some (.int .i64 lx.count) ∧ w'.cell? ⟨LB, 4, none⟩ = some (.int .i64 lx.prev) ∧ w'.cell? ⟨LB, 5, none⟩ = some (.int .i64 lx.secret) ∧ w'.cell? ⟨LB, 6, none⟩ = some (.bool lx.out)) (first | (simp [p1, p2, p3, p4, p5, p6, p7, p8, p9, p10, l0, l1, l2, l3, l4, l5, l6]; done) | (simp (maxDischargeDepth := 20) [p1, p2, p3, p4, p5, p6, p7, p8, p9, p10, l0, l1, l2, l3, l4, l5, l6, World.cell?_alloc_some]; done) | (simp [gp1, gp2, gp3, gp4, gp5, gp6, gp7, gp8, gp9, gp10, gl0, gl1, gl2, gl3, gl4, gl5, gl6, hP5, hL5]; done) | (simp (maxDischargeDepth := 20) [gp1, gp2, gp3, gp4, gp5, gp6, gp7, gp8, gp9, gp10, gl0, gl1, gl2, gl3, gl4, gl5, gl6, hP5, hL5, World.cell?_alloc_some]; done) | (simp (maxDischargeDepth := 40) [gp1, gp2, gp3, gp4, gp5, gp6, gp7, gp8, gp9, gp10, gl0, gl1, gl2, gl3, gl4, gl5, gl6, World.cell?_setCell_far, hn1, hn2, hn3, hn4]; done)) (first | (go_at_call 31; go_must (with_reducible refine (c3 _ (HV4.out.next (by first | exact (Below.refl _ _).drew | exact Below.refl _ _ | exact ((Below.refl _ _).alloc (Nat.le_refl _) _).drew | exact (Below.refl _ _).alloc (Nat.le_refl _) _))).mono ?_); rintro e w5 ⟨rfl, hb5⟩; have hb5x : Below wc.heap.size wc w5 := (by first | exact ⟨hb5.os, hb5.tape, hb5.output, hb5.size, hb5.block⟩ | exact below_tr (((Below.refl _ _).alloc (Nat.le_refl _) _).drew) hb5 | exact below_tr ((Below.refl _ _).alloc (Nat.le_refl _) _) hb5); (try (have hBz : w5.heap[wc.heap.size]? = some (.cells #[.int .i64 0, .int .i64 0, .int .i64 0, .int .i64 0, .int .i64 0, .int .i64 0, .int .i64 0, .int .i64 0, .int .i64 0, .slice none 0 0] 38) := (hb5.block wc.heap.size (by simp)).trans (heap_alloc_new wc _); obtain ⟨bz0, bz1, bz2, bz3, bz4, bz5, bz6, bz7, bz8, bz9⟩ := cells10 hBz; have fBz : ∀ j, w5.frozen? ⟨wc.heap.size, j, none⟩ = false := fun j => frozen_of_row w5 _ j _ _ hBz)); have hPx := (hb5x.block P (by omega)).trans HP4.out; have hLx := (hb5x.block LB hlt4).trans HL4.out; have gp1 : w5.cell? ⟨P, 1, none⟩ = some (.int .i64 s.role) := cell_of_row w5 _ 1 _ _ _ hPx; have gp2 : w5.cell? ⟨P, 2, none⟩ = some (.int .i64 s.step) := cell_of_row w5 _ 2 _ _ _ hPx; have gp3 : w5.cell? ⟨P, 3, none⟩ = some (.int .i64 s.sent) := cell_of_row w5 _ 3 _ _ _ hPx; have gp4 : w5.cell? ⟨P, 4, none⟩ = some (.int .i64 s.got) := cell_of_row w5 _ 4 _ _ _ hPx; have gp5 : w5.cell? ⟨P, 5, none⟩ = some (.int .i64 s.prev) := cell_of_row w5 _ 5 _ _ _ hPx; have gp6 : w5.cell? ⟨P, 6, none⟩ = some (.int .i64 s.skip) := cell_of_row w5 _ 6 _ _ _ hPx; have gp7 : w5.cell? ⟨P, 7, none⟩ = some (.int .i64 s.cap) := cell_of_row w5 _ 7 _ _ _ hPx; have gp8 : w5.cell? ⟨P, 8, none⟩ = some (.int .i64 s.secret) := cell_of_row w5 _ 8 _ _ _ hPx; have gp9 : w5.cell? ⟨P, 9, none⟩ = some (.int .i64 pe) := cell_of_row w5 _ 9 _ _ _ hPx; have gp10 : w5.cell? ⟨P, 10, none⟩ = some (.slice aa s.kept.length cc) := cell_of_row w5 _ 10 _ _ _ hPx; have gl0 : w5.cell? ⟨LB, 0, none⟩ = some (.string by0) := cell_of_row w5 _ 0 _ _ _ hLx; have gl1 : w5.cell? ⟨LB, 1, none⟩ = some (.string tx0) := cell_of_row w5 _ 1 _ _ _ hLx; have gl2 : w5.cell? ⟨LB, 2, none⟩ = some (.int .i64 lx.step) := cell_of_row w5 _ 2 _ _ _ hLx; have gl3 : w5.cell? ⟨LB, 3, none⟩ = some (.int .i64 lx.count) := cell_of_row w5 _ 3 _ _ _ hLx; have gl4 : w5.cell? ⟨LB, 4, none⟩ = some (.int .i64 lx.prev) := cell_of_row w5 _ 4 _ _ _ hLx; have gl5 : w5.cell? ⟨LB, 5, none⟩ = some (.int .i64 lx.secret) := cell_of_row w5 _ 5 _ _ _ hLx; have gl6 : w5.cell? ⟨LB, 6, none⟩ = some (.bool lx.out) := cell_of_row w5 _ 6 _ _ _ hLx; have hP5 : P < w5.heap.size := (by have := hb5x.size; omega); have hL5 : LB < w5.heap.size := (by have := hb5x.size; omega); clear hPx hLx))
        all_goals (go_wp2_with fail)
        all_goals go_meet
        all_goals (refine ⟨⟨_, rfl, rfl⟩, ?_⟩)
        all_goals (repeat (first | (with_reducible refine Below.setCell ?_ (by exact Nat.le_refl _) _) | (with_reducible refine Below.drew ?_) | (with_reducible refine Below.alloc ?_ (by exact hb5x.size) _)))
        all_goals exact hb5x
      case rest =>
        obtain ⟨⟨B, rfl, rfl⟩, hb6⟩ := hcut; have HWF := hid (below_tr HW4.out hb6); clear p0 p1 p2 p3 p4 p5 p6 p7 p8 p9 p10 p11 l0 l1 l2 l3 l4 l5 l6 hb6 HP4 HQ4 HR4 HO4 HW4 HV4 HL4 c3; go_wp2; go_ret; exact ⟨rfl, HWF.out⟩
end Go.Proofs.Ytabpkohcimiceab
