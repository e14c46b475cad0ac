import Derived.Test.YtabpkohcimiceabTakeP
namespace Go.Proofs.Ytabpkohcimiceab
set_option maxRecDepth 100000
set_option maxHeartbeats 1000000
open Go.RowKit
set_option linter.unusedVariables false
set_option linter.unusedSimpArgs false
set_option maxHeartbeats 4000000 in
theorem take_plain (P Q base : Nat) (d dq : ByteArray) (s : StM) (pe : Int) (aa : Option Addr) (cc : Nat) (pl : Value) (e1 e2 e3 e4 e5 e6 e7 e8 e9 e10 : Value) (xv : Option Addr) (xn xc : Nat) (L : List LtM) (lx : LtM) (i : Nat) (pub dn : Nat) (kd who pn dr f0 f1 : Int) (tx k1 k2 : ByteArray) (k : Nat) (w : World) (hP : w.heap[P]? = some (.cells #[.string d, .int .i64 s.role, .int .i64 s.step, .int .i64 s.sent, .int .i64 s.got, .int .i64 s.prev, .int .i64 s.skip, .int .i64 s.cap, .int .i64 s.secret, .int .i64 pe, .slice aa s.kept.length cc, pl] 41)) (hQ : w.heap[Q]? = some (.cells #[.string dq, e1, e2, e3, e4, e5, e6, e7, e8, e9, e10, .slice xv xn xc] 41)) (hrow : w.ownsRow base 63 7 (.slice xv xn xc) L.length (ltsC L)) (hPb : P < base) (hQb : Q < base) (hPQ : P ≠ Q) (hbase : base ≤ w.heap.size) (hL : L.length ≤ 2000) (hi : i < L.length) (hlx : (L.getD i ltZ) = lx) (hpi : pickN pn (L.length : Int) = (i : Int)) (hpn : (-9223372036854775808 ≤ pn ∧ pn ≤ 9223372036854775807)) (hdr : (-9223372036854775808 ≤ dr ∧ dr ≤ 9223372036854775807)) (hdn : secN dr = (dn : Int)) (hbs : lx.bytes.length ≤ 1000) (hg : GoodD d.data.toList k) (hv : IdsAt w (.slice aa s.kept.length cc) s.kept) (hq : LawQ s) (hkc : s.kept.length ≤ s.cap) (hf : ¬ (s.step + 1 < lx.step ∨ lx.step % 2 = s.step % 2)) (h1 : 1 ≤ lx.step) (hc : lx.count ≤ 49) (hp : lx.prev ≤ 50) (herr : recvErr d.data.toList lx.bytes (dn : Int) = 0) (htxt : recvTxt d.data.toList lx.bytes (dn : Int) = lx.text) (hke : (keyR s (letQ lx.step lx.count lx.prev pub) dn).1 = 0) (s2 : StM) (hs2 : capS (keyR s (letQ lx.step lx.count lx.prev pub) dn).2.2 = s2) (pe2 : Int) (hpe2 : (if lx.step = s.step + 1 then (lx.secret : Int) else pe) = pe2) (hout : lx.out = false) :
    Calls Try.prog 18 #[.pointer (some ⟨P, 0, none⟩), .pointer (some ⟨Q, 0, none⟩), .agg #[.int .i64 kd, .int .i64 who, .int .i64 pn, .int .i64 dr, .string tx, .bool false, .int .i64 f0, .int .i64 f1, .string k1, .string k2]] w fun e w' => e = .returned (.bool true) ∧ (∃ (yv : Option Addr) (yc : Nat), w'.heap[P]? = some (.cells #[.string (str (recvTo d.data.toList lx.bytes (dn : Int))), .int .i64 s2.role, .int .i64 s2.step, .int .i64 s2.sent, .int .i64 s2.got, .int .i64 s2.prev, .int .i64 s2.skip, .int .i64 s2.cap, .int .i64 s2.secret, .int .i64 pe2, .slice yv s2.kept.length yc, pl] 41) ∧ IdsAt w' (.slice yv s2.kept.length yc) s2.kept ∧ FreshV w.heap.size (.slice yv s2.kept.length yc)) ∧ w'.heap[Q]? = some (.cells #[.string dq, e1, e2, e3, e4, e5, e6, e7, e8, e9, e10, .slice xv xn xc] 41) ∧ w'.ownsRow base 63 7 (.slice xv xn xc) (L.set i { lx with out := true }).length (ltsC (L.set i { lx with out := true })) ∧ Only (fun b => b = P ∨ (Value.slice xv xn xc).ownBlock = some b) w w' := by
  have hds : d.size = k * 32 := by rw [← len_list]; exact hg.len
  have hk2 := hg.k2; have hk1 := hg.k1
  have hdm : d.size ≤ maxLen := by unfold maxLen; omega
  have hbm : (str lx.bytes).size ≤ maxLen := by rw [str_size]; unfold maxLen; omega
  obtain ⟨g, cap, hxv, hgb, _⟩ := ltRow hrow hi
  injection hxv with x1 x2 x3
  subst x1 x2 x3; have hz := ltRow7 hrow hi
  rw [hlx] at hz
  have hz : ∀ j, j < 7 → w.cell? ⟨g, i * 7 + j, none⟩ = [.string (str lx.bytes), .string (str lx.text), .int .i64 lx.step, .int .i64 lx.count, .int .i64 lx.prev, .int .i64 lx.secret, .bool lx.out][j]? := hz; have hglt : g < w.heap.size := (hrow.lt g rfl).2
  have hgP : g ≠ P := by omega
  have hgQ : g ≠ Q := by omega
  have hPlt : P < w.heap.size := by omega
  have hQlt : Q < w.heap.size := by omega
  have hiL : (i : Int) < (L.length : Int) := by omega
  have hi0 : (0 : Int) ≤ (i : Int) := by omega
  have hL0 : ((L.length : Int) == 0) = false := by rw [beq_eq_false_iff_ne]; omega
  have c0 := fun w => pick_any pn (L.length : Int) w hpn.1 hpn.2 (by omega) (by omega)
  rw [hpi] at c0
  have c1 := fun w => secretOf_any dr w hdr.1 hdr.2
  rw [hdn] at c1
  have c2 := fun w => pawlReceive_any d (str lx.bytes) (dn : Int) w hdm hbm
  rw [str_toList] at c2
  have c3 := fun w hv => mayTake_any s pe aa cc lx pub dn w hv hq hkc hf h1 hc hp
  have HLX : Hid (L.getD i ltZ = lx) := hlx; have HI : Hid (i < L.length) := hi; have hne := recv_other hg lx.bytes (dn : Int) herr
  have hbq : ((str (recvTo d.data.toList lx.bytes (dn : Int))).toList == d.toList) = false := by
    rw [ByteArray.toList_eq, ByteArray.toList_eq, str_toList, beq_eq_false_iff_ne]; exact hne
  have hbq2 : (d.toList == (str (recvTo d.data.toList lx.bytes (dn : Int))).toList) = false := by
    rw [ByteArray.toList_eq, ByteArray.toList_eq, str_toList, beq_eq_false_iff_ne]; exact fun e => hne e.symm
  obtain ⟨k', hD, hk', hk1', hk2', hto, hplx, r1, r2, r3⟩ := recv_safe _ _ _ herr; obtain ⟨y1, y2⟩ := recsF_ok _ _ _ _ r1
  have hkk : k' = k := by rw [len_list] at hk'; omega
  subst hkk
  have c4 := fun w => carried_any d (rplR d.data.toList (recvTo d.data.toList lx.bytes (dn : Int)) (heldS d.data.toList).cap (liveL d.data.toList)) k' w hds hk2 y2 y1
  rw [← hplx, r2 []] at c4
  rw [herr, htxt] at c2
  have c3' : ∀ w, IdsAt w (.slice aa s.kept.length cc) s.kept → Calls Try.prog 31 #[.agg #[.int .i64 s.role, .int .i64 s.step, .int .i64 s.sent, .int .i64 s.got, .int .i64 s.prev, .int .i64 s.skip, .int .i64 s.cap, .int .i64 s.secret, .int .i64 pe, .slice aa s.kept.length cc], .agg #[.string (str lx.bytes), .string (str lx.text), .int .i64 lx.step, .int .i64 lx.count, .int .i64 lx.prev, .int .i64 lx.secret, .bool lx.out], .int .i64 dn] w fun e w' => (∃ (yv : Option Addr) (yc : Nat), e = .returned (.tuple #[.agg #[.int .i64 s2.role, .int .i64 s2.step, .int .i64 s2.sent, .int .i64 s2.got, .int .i64 s2.prev, .int .i64 s2.skip, .int .i64 s2.cap, .int .i64 s2.secret, .int .i64 pe2, .slice yv s2.kept.length yc], .int .i64 0]) ∧ IdsAt w' (.slice yv s2.kept.length yc) s2.kept ∧ FreshV w.heap.size (.slice yv s2.kept.length yc)) ∧ Below w.heap.size w w' := by
    intro w hv
    refine (c3 w hv).mono ?_
    rintro e w' ⟨ho, hb⟩
    refine ⟨?_, hb⟩
    rcases ho with ⟨ho, _⟩ | ⟨_, yv, yc, h1, h2, h3⟩
    · exact absurd hke ho
    · rw [hs2, hpe2] at h1
      rw [hs2] at h2 h3
      exact ⟨yv, yc, h1, h2, h3⟩
  have HSET : Hid ((ltsC L).set (i * 7 + 6) (.bool true) = ltsC (L.set i { lx with out := true }) ∧ (L.set i { lx with out := true }).length = L.length) := ⟨by rw [ltsC_set L i hi, hlx], List.length_set⟩
  have HOUT := hid hout; clear hout
  generalize ltsC (L.set i { lx with out := true }) = setC at *
  generalize (L.set i { lx with out := true }).length = setN at *
  clear r3
  generalize str (recvTo d.data.toList lx.bytes (dn : Int)) = tt at *
  generalize str (recvPlan d.data.toList lx.bytes (dn : Int)) = pln at *
  clear c3 hs2 hpe2 hke herr htxt hne hD hk' hk1' hk2' hto hplx r1 r2 y1 y2; have c3 := c3'; clear c3'
  generalize str lx.bytes = by0 at *
  generalize str lx.text = tx0 at *
  clear hlx hpi hpn hdr hdn hbs hg hq hkc hf h1 hc hp hbm hdm
  go_enter Try.func18, Try.ntmps18
  go_upto_region 1 with fail
  obtain ⟨ob, eob⟩ : ∃ ob, ob = Obj.cells #[.int .i64 kd, .int .i64 who, .int .i64 pn, .int .i64 dr, .string tx, .bool false, .int .i64 f0, .int .i64 f1, .string k1, .string k2] 34 := ⟨_, rfl⟩
  rw [← eob]; have hO := heap_alloc_new w ob; have hWa : Below w.heap.size w (w.alloc ob) := (Below.refl _ _).alloc (Nat.le_refl _) _
  have hlt : w.heap.size < (w.alloc ob).heap.size := by simp
  generalize (w.alloc ob) = wa at hO hWa hlt ⊢
  subst eob; have HPa := hid ((hWa.block P hPlt).trans hP); have HQa := hid ((hWa.block Q hQlt).trans hQ); have HRa := hid (ownsRow_below hrow hWa); have HO := hid hO; have HWa := hid hWa; have HVa := hid (hv.next hWa)
  have HZ : Hid (∀ j, j < 7 → wa.cell? ⟨g, i * 7 + j, none⟩ = [.string by0, .string tx0, .int .i64 lx.step, .int .i64 lx.count, .int .i64 lx.prev, .int .i64 lx.secret, .bool lx.out][j]?) := fun j hj => (hWa.cell (p := ⟨g, i * 7 + j, none⟩) hglt).trans (hz j hj)
  have o2 : wa.cell? ⟨w.heap.size, 2, none⟩ = some (.int .i64 pn) := cell_of_row wa _ 2 _ _ _ hO; have q11 : wa.cell? ⟨Q, 11, none⟩ = some (.slice (some ⟨g, 0, none⟩) L.length xc) := cell_of_row wa _ 11 _ _ _ HQa.out; clear hO hWa hP hQ hrow hv hz
  go_upto_region 3 with fail
  go_cut [7] (fun x wx => x = .int .i64 i ∧ Below wa.heap.size wa wx)
  case first =>
    go_quiet (first | (go_at_call 12; exact Calls.quiet_of_same (c0 _)))
    all_goals (go_wp2_with fail)
    all_goals go_meet
    all_goals exact ⟨rfl, ⟨rfl, rfl, rfl, Nat.le_refl _, fun _ _ => rfl⟩⟩
  case rest =>
    obtain ⟨rfl, hb2⟩ := hcut; have hsz2 := hb2.size
    have HP2 := hid ((hb2.block P (by omega)).trans HPa.out)
    have HQ2 := hid ((hb2.block Q (by omega)).trans HQa.out)
    have HR2 := hid (ownsRow_below HRa.out hb2); have HO2 := hid ((hb2.block w.heap.size hlt).trans HO.out); have HW2 := hid (below_tr HWa.out hb2); have HV2 := hid (HVa.out.next hb2)
    have z0 : wc.cell? ⟨g, i * 7, none⟩ = some (.string by0) := (hb2.cell (p := ⟨g, i * 7, none⟩) (by show g < wa.heap.size; omega)).trans (HZ.out 0 (by omega))
    have z1 : wc.cell? ⟨g, i * 7 + 1, none⟩ = some (.string tx0) := (hb2.cell (p := ⟨g, i * 7 + 1, none⟩) (by show g < wa.heap.size; omega)).trans (HZ.out 1 (by omega))
    have z2 : wc.cell? ⟨g, i * 7 + 2, none⟩ = some (.int .i64 lx.step) := (hb2.cell (p := ⟨g, i * 7 + 2, none⟩) (by show g < wa.heap.size; omega)).trans (HZ.out 2 (by omega))
    have z3 : wc.cell? ⟨g, i * 7 + 3, none⟩ = some (.int .i64 lx.count) := (hb2.cell (p := ⟨g, i * 7 + 3, none⟩) (by show g < wa.heap.size; omega)).trans (HZ.out 3 (by omega))
    have z4 : wc.cell? ⟨g, i * 7 + 4, none⟩ = some (.int .i64 lx.prev) := (hb2.cell (p := ⟨g, i * 7 + 4, none⟩) (by show g < wa.heap.size; omega)).trans (HZ.out 4 (by omega))
    have z5 : wc.cell? ⟨g, i * 7 + 5, none⟩ = some (.int .i64 lx.secret) := (hb2.cell (p := ⟨g, i * 7 + 5, none⟩) (by show g < wa.heap.size; omega)).trans (HZ.out 5 (by omega))
    have z6 : wc.cell? ⟨g, i * 7 + 6, none⟩ = some (.bool lx.out) := (hb2.cell (p := ⟨g, i * 7 + 6, none⟩) (by show g < wa.heap.size; omega)).trans (HZ.out 6 (by omega))
    have q11' : wc.cell? ⟨Q, 11, none⟩ = some (.slice (some ⟨g, 0, none⟩) L.length xc) := cell_of_row wc _ 11 _ _ _ HQ2.out; clear o2 q11 hb2 HPa HQa HRa HO HWa HVa HZ c0
    go_upto_region 5 with fail
    have hLB := heap_alloc_new wc (.cells #[.string by0, .string tx0, .int .i64 lx.step, .int .i64 lx.count, .int .i64 lx.prev, .int .i64 lx.secret, .bool lx.out] 63); have hb3 : Below wc.heap.size wc (wc.alloc (.cells #[.string by0, .string tx0, .int .i64 lx.step, .int .i64 lx.count, .int .i64 lx.prev, .int .i64 lx.secret, .bool lx.out] 63)) := (Below.refl _ _).alloc (Nat.le_refl _) _
    have hlt3 : wc.heap.size < (wc.alloc (.cells #[.string by0, .string tx0, .int .i64 lx.step, .int .i64 lx.count, .int .i64 lx.prev, .int .i64 lx.secret, .bool lx.out] 63)).heap.size := by simp
    clear z0 z1 z2 z3 z4 z5 z6 q11'
    generalize (wc.alloc (.cells #[.string by0, .string tx0, .int .i64 lx.step, .int .i64 lx.count, .int .i64 lx.prev, .int .i64 lx.secret, .bool lx.out] 63)) = w3 at hLB hb3 hlt3 ⊢
    obtain ⟨LB, hLBe⟩ : ∃ LB, LB = wc.heap.size := ⟨_, rfl⟩
    have HLE := hid hLBe
    rw [← hLBe] at hLB hlt3 ⊢
    have hLBw : w.heap.size < LB := by rw [hLBe]; omega
    have HP3 := hid ((hb3.block P (by omega)).trans HP2.out)
    have HQ3 := hid ((hb3.block Q (by omega)).trans HQ2.out)
    have HR3 := hid (ownsRow_below HR2.out hb3)
    have HO3 := hid ((hb3.block w.heap.size (by omega)).trans HO2.out)
    have HW3 := hid (below_tr HW2.out hb3); have HV3 := hid (HV2.out.next hb3); have HL3 := hid hLB; have o3 : w3.cell? ⟨w.heap.size, 3, none⟩ = some (.int .i64 dr) := cell_of_row w3 _ 3 _ _ _ HO3.out; have p0 : w3.cell? ⟨P, 0, none⟩ = some (.string d) := cell_of_row w3 _ 0 _ _ _ HP3.out; have l0 : w3.cell? ⟨LB, 0, none⟩ = some (.string by0) := cell_of_row w3 _ 0 _ _ _ hLB; clear hLB hb3 hLBe HP2 HQ2 HR2 HO2 HW2 HV2
    go_upto_region 6 with (first | (go_at_call 10; go_must (with_reducible refine (c1 _).mono ?_); rintro e w' ⟨rfl, hw⟩; rw [hw]; clear hw w'))
    go_cut [10, 11, 12] (fun x y z wx => x = .string tx0 ∧ y = .string pln ∧ z = .int .i64 0 ∧ Below w3.heap.size w3 wx)
    case first =>
      go_region_held3 (fun w' => w'.cell? ⟨P, 0, none⟩ = some (.string d) ∧ w'.cell? ⟨LB, 0, none⟩ = some (.string by0)) (first | (simp [p0, l0]; done) | (simp [g0, gl]; done)) (first | (go_at_call 26; go_must (with_reducible refine (c2 _).mono ?_); rintro e w4 ⟨rfl, hb4⟩; have hb4x : Below w3.heap.size w3 w4 := ⟨hb4.os, hb4.tape, hb4.output, hb4.size, hb4.block⟩; have g0 : w4.cell? ⟨P, 0, none⟩ = some (.string d) := cell_of_row w4 _ 0 _ _ _ ((hb4x.block P (by omega)).trans HP3.out); have gl : w4.cell? ⟨LB, 0, none⟩ = some (.string by0) := cell_of_row w4 _ 0 _ _ _ ((hb4x.block LB hlt3).trans HL3.out)))
      all_goals (go_wp2_with fail)
      all_goals go_meet
      all_goals exact ⟨rfl, rfl, rfl, ⟨hb4x.os, hb4x.tape, hb4x.output, hb4x.size, hb4x.block⟩⟩
    case rest =>
      obtain ⟨rfl, rfl, rfl, hb4⟩ := hcut; clear o3 p0 l0 c1 c2; have hsz4 := hb4.size
      have HP4 := hid ((hb4.block P (by omega)).trans HP3.out)
      have HQ4 := hid ((hb4.block Q (by omega)).trans HQ3.out)
      have HR4 := hid (ownsRow_below HR3.out hb4)
      have HO4 := hid ((hb4.block w.heap.size (by omega)).trans HO3.out)
      have HW4 := hid (below_tr HW3.out hb4); have HV4 := hid (HV3.out.next hb4); have HL4 := hid ((hb4.block LB hlt3).trans HL3.out)
      have hlt4 : LB < wc.heap.size := by omega
      have hPc4 : P < wc.heap.size := by omega
      have hn1 : ¬ wc.heap.size = P := by omega
      have hn2 : ¬ P = wc.heap.size := by omega
      have hn3 : ¬ wc.heap.size = LB := by omega
      have hn4 : ¬ LB = wc.heap.size := by omega
      clear hb4 HP3 HQ3 HR3 HO3 HW3 HV3 HL3 hlt3; have p0 : wc.cell? ⟨P, 0, none⟩ = some (.string d) := cell_of_row wc _ 0 _ _ _ HP4.out; have p1 : wc.cell? ⟨P, 1, none⟩ = some (.int .i64 s.role) := cell_of_row wc _ 1 _ _ _ HP4.out; have p2 : wc.cell? ⟨P, 2, none⟩ = some (.int .i64 s.step) := cell_of_row wc _ 2 _ _ _ HP4.out; have p3 : wc.cell? ⟨P, 3, none⟩ = some (.int .i64 s.sent) := cell_of_row wc _ 3 _ _ _ HP4.out; have p4 : wc.cell? ⟨P, 4, none⟩ = some (.int .i64 s.got) := cell_of_row wc _ 4 _ _ _ HP4.out; have p5 : wc.cell? ⟨P, 5, none⟩ = some (.int .i64 s.prev) := cell_of_row wc _ 5 _ _ _ HP4.out; have p6 : wc.cell? ⟨P, 6, none⟩ = some (.int .i64 s.skip) := cell_of_row wc _ 6 _ _ _ HP4.out; have p7 : wc.cell? ⟨P, 7, none⟩ = some (.int .i64 s.cap) := cell_of_row wc _ 7 _ _ _ HP4.out; have p8 : wc.cell? ⟨P, 8, none⟩ = some (.int .i64 s.secret) := cell_of_row wc _ 8 _ _ _ HP4.out; have p9 : wc.cell? ⟨P, 9, none⟩ = some (.int .i64 pe) := cell_of_row wc _ 9 _ _ _ HP4.out; have p10 : wc.cell? ⟨P, 10, none⟩ = some (.slice aa s.kept.length cc) := cell_of_row wc _ 10 _ _ _ HP4.out; have p11 : wc.cell? ⟨P, 11, none⟩ = some (pl) := cell_of_row wc _ 11 _ _ _ HP4.out; have l0 : wc.cell? ⟨LB, 0, none⟩ = some (.string by0) := cell_of_row wc _ 0 _ _ _ HL4.out; have l1 : wc.cell? ⟨LB, 1, none⟩ = some (.string tx0) := cell_of_row wc _ 1 _ _ _ HL4.out; have l2 : wc.cell? ⟨LB, 2, none⟩ = some (.int .i64 lx.step) := cell_of_row wc _ 2 _ _ _ HL4.out; have l3 : wc.cell? ⟨LB, 3, none⟩ = some (.int .i64 lx.count) := cell_of_row wc _ 3 _ _ _ HL4.out; have l4 : wc.cell? ⟨LB, 4, none⟩ = some (.int .i64 lx.prev) := cell_of_row wc _ 4 _ _ _ HL4.out; have l5 : wc.cell? ⟨LB, 5, none⟩ = some (.int .i64 lx.secret) := cell_of_row wc _ 5 _ _ _ HL4.out; have l6 : wc.cell? ⟨LB, 6, none⟩ = some (.bool lx.out) := cell_of_row wc _ 6 _ _ _ HL4.out
      go_upto_region 7 with fail
      go_cut [13, 14] (fun x y wx => (∃ (B : Nat) (yv : Option Addr) (yc : Nat), x = .pointer (some ⟨B, 0, none⟩) ∧ y = .int .i64 0 ∧ wc.heap.size ≤ B ∧ B < wx.heap.size ∧ wx.heap[B]? = some (.cells #[.int .i64 s2.role, .int .i64 s2.step, .int .i64 s2.sent, .int .i64 s2.got, .int .i64 s2.prev, .int .i64 s2.skip, .int .i64 s2.cap, .int .i64 s2.secret, .int .i64 pe2, .slice yv s2.kept.length yc] 38) ∧ IdsAt wx (.slice yv s2.kept.length yc) s2.kept ∧ FreshV wc.heap.size (.slice yv s2.kept.length yc)) ∧ Below wc.heap.size wc wx)
      case first =>
        go_region_held3 (fun w' => w'.cell? ⟨P, 1, none⟩ = some (.int .i64 s.role) ∧ w'.cell? ⟨P, 2, none⟩ = some (.int .i64 s.step) ∧ w'.cell? ⟨P, 3, none⟩ = some (.int .i64 s.sent) ∧ w'.cell? ⟨P, 4, none⟩ = some (.int .i64 s.got) ∧ w'.cell? ⟨P, 5, none⟩ = some (.int .i64 s.prev) ∧ w'.cell? ⟨P, 6, none⟩ = some (.int .i64 s.skip) ∧ w'.cell? ⟨P, 7, none⟩ = some (.int .i64 s.cap) ∧ w'.cell? ⟨P, 8, none⟩ = some (.int .i64 s.secret) ∧ w'.cell? ⟨P, 9, none⟩ = some (.int .i64 pe) ∧ w'.cell? ⟨P, 10, none⟩ = some (.slice aa s.kept.length cc) ∧ w'.cell? ⟨LB, 0, none⟩ = some (.string by0) ∧ w'.cell? ⟨LB, 1, none⟩ = some (.string tx0) ∧ w'.cell? ⟨LB, 2, none⟩ = some (.int .i64 lx.step) ∧ w'.cell? ⟨LB, 3, none⟩ = some (.int .i64 lx.count) ∧ w'.cell? ⟨LB, 4, none⟩ = some (.int .i64 lx.prev) ∧ w'.cell? ⟨LB, 5, none⟩ = some (.int .i64 lx.secret) ∧ w'.cell? ⟨LB, 6, none⟩ = some (.bool lx.out)) (first | (simp [p1, p2, p3, p4, p5, p6, p7, p8, p9, p10, l0, l1, l2, l3, l4, l5, l6]; done) | (simp (maxDischargeDepth := 20) [p1, p2, p3, p4, p5, p6, p7, p8, p9, p10, l0, l1, l2, l3, l4, l5, l6, World.cell?_alloc_some]; done) | (simp [gp1, gp2, gp3, gp4, gp5, gp6, gp7, gp8, gp9, gp10, gl0, gl1, gl2, gl3, gl4, gl5, gl6, hP5, hL5]; done) | (simp (maxDischargeDepth := 20) [gp1, gp2, gp3, gp4, gp5, gp6, gp7, gp8, gp9, gp10, gl0, gl1, gl2, gl3, gl4, gl5, gl6, hP5, hL5, World.cell?_alloc_some]; done) | (simp (maxDischargeDepth := 40) [gp1, gp2, gp3, gp4, gp5, gp6, gp7, gp8, gp9, gp10, gl0, gl1, gl2, gl3, gl4, gl5, gl6, World.cell?_setCell_far, hn1, hn2, hn3, hn4]; done)) (first | (go_at_call 31; go_must (with_reducible refine (c3 _ (HV4.out.next (by first | exact (Below.refl _ _).drew | exact Below.refl _ _ | exact ((Below.refl _ _).alloc (Nat.le_refl _) _).drew | exact (Below.refl _ _).alloc (Nat.le_refl _) _))).mono ?_); rintro e w5 ⟨⟨yv, yc, rfl, hI5, hF5⟩, hb5⟩; have hb5x : Below wc.heap.size wc w5 := (by first | exact ⟨hb5.os, hb5.tape, hb5.output, hb5.size, hb5.block⟩ | exact below_tr (((Below.refl _ _).alloc (Nat.le_refl _) _).drew) hb5 | exact below_tr ((Below.refl _ _).alloc (Nat.le_refl _) _) hb5); (try (have hBz : w5.heap[wc.heap.size]? = some (.cells #[.int .i64 0, .int .i64 0, .int .i64 0, .int .i64 0, .int .i64 0, .int .i64 0, .int .i64 0, .int .i64 0, .int .i64 0, .slice none 0 0] 38) := (hb5.block wc.heap.size (by simp)).trans (heap_alloc_new wc _); obtain ⟨bz0, bz1, bz2, bz3, bz4, bz5, bz6, bz7, bz8, bz9⟩ := cells10 hBz; have fBz : ∀ j, w5.frozen? ⟨wc.heap.size, j, none⟩ = false := fun j => frozen_of_row w5 _ j _ _ hBz)); have hPx := (hb5x.block P (by omega)).trans HP4.out; have hLx := (hb5x.block LB hlt4).trans HL4.out; have gp1 : w5.cell? ⟨P, 1, none⟩ = some (.int .i64 s.role) := cell_of_row w5 _ 1 _ _ _ hPx; have gp2 : w5.cell? ⟨P, 2, none⟩ = some (.int .i64 s.step) := cell_of_row w5 _ 2 _ _ _ hPx; have gp3 : w5.cell? ⟨P, 3, none⟩ = some (.int .i64 s.sent) := cell_of_row w5 _ 3 _ _ _ hPx; have gp4 : w5.cell? ⟨P, 4, none⟩ = some (.int .i64 s.got) := cell_of_row w5 _ 4 _ _ _ hPx; have gp5 : w5.cell? ⟨P, 5, none⟩ = some (.int .i64 s.prev) := cell_of_row w5 _ 5 _ _ _ hPx; have gp6 : w5.cell? ⟨P, 6, none⟩ = some (.int .i64 s.skip) := cell_of_row w5 _ 6 _ _ _ hPx; have gp7 : w5.cell? ⟨P, 7, none⟩ = some (.int .i64 s.cap) := cell_of_row w5 _ 7 _ _ _ hPx; have gp8 : w5.cell? ⟨P, 8, none⟩ = some (.int .i64 s.secret) := cell_of_row w5 _ 8 _ _ _ hPx; have gp9 : w5.cell? ⟨P, 9, none⟩ = some (.int .i64 pe) := cell_of_row w5 _ 9 _ _ _ hPx; have gp10 : w5.cell? ⟨P, 10, none⟩ = some (.slice aa s.kept.length cc) := cell_of_row w5 _ 10 _ _ _ hPx; have gl0 : w5.cell? ⟨LB, 0, none⟩ = some (.string by0) := cell_of_row w5 _ 0 _ _ _ hLx; have gl1 : w5.cell? ⟨LB, 1, none⟩ = some (.string tx0) := cell_of_row w5 _ 1 _ _ _ hLx; have gl2 : w5.cell? ⟨LB, 2, none⟩ = some (.int .i64 lx.step) := cell_of_row w5 _ 2 _ _ _ hLx; have gl3 : w5.cell? ⟨LB, 3, none⟩ = some (.int .i64 lx.count) := cell_of_row w5 _ 3 _ _ _ hLx; have gl4 : w5.cell? ⟨LB, 4, none⟩ = some (.int .i64 lx.prev) := cell_of_row w5 _ 4 _ _ _ hLx; have gl5 : w5.cell? ⟨LB, 5, none⟩ = some (.int .i64 lx.secret) := cell_of_row w5 _ 5 _ _ _ hLx; have gl6 : w5.cell? ⟨LB, 6, none⟩ = some (.bool lx.out) := cell_of_row w5 _ 6 _ _ _ hLx; have hP5 : P < w5.heap.size := (by have := hb5x.size; omega); have hL5 : LB < w5.heap.size := (by have := hb5x.size; omega); clear hPx hLx))
        all_goals (go_wp2_with fail)
        all_goals go_meet
        all_goals first | (obtain ⟨wz, hwz, hbz, hnz⟩ := store10 hBz (.int .i64 s2.role) (.int .i64 s2.step) (.int .i64 s2.sent) (.int .i64 s2.got) (.int .i64 s2.prev) (.int .i64 s2.skip) (.int .i64 s2.cap) (.int .i64 s2.secret) (.int .i64 pe2) (.slice yv s2.kept.length yc); rw [← hwz]; have hnB := hnz.size; exact ⟨⟨wc.heap.size, yv, yc, rfl, rfl, Nat.le_refl _, (by have h9 : wc.heap.size < w5.heap.size := (by have := hb5.size; simp at this; omega); show wc.heap.size < wz.heap.size; omega), hbz, hI5.only hnz (fun _ k hk q => by have h8 := hF5 k hk; simp at h8; omega), fun k hk => by have h8 := hF5 k hk; simp at h8; omega⟩, (by have h7 := hb5x.trans (hnz.below hb5x.size (fun k q => by omega)); exact ⟨h7.os, h7.tape, h7.output, h7.size, h7.block⟩)⟩) | (have hA5 : Below w5.heap.size w5 (w5.alloc (.cells #[.int .i64 s2.role, .int .i64 s2.step, .int .i64 s2.sent, .int .i64 s2.got, .int .i64 s2.prev, .int .i64 s2.skip, .int .i64 s2.cap, .int .i64 s2.secret, .int .i64 pe2, .slice yv s2.kept.length yc] 38)) := (Below.refl _ _).alloc (Nat.le_refl _) _; have hI6 := hI5.next hA5; have hT6 := heap_alloc_new w5 (.cells #[.int .i64 s2.role, .int .i64 s2.step, .int .i64 s2.sent, .int .i64 s2.got, .int .i64 s2.prev, .int .i64 s2.skip, .int .i64 s2.cap, .int .i64 s2.secret, .int .i64 pe2, .slice yv s2.kept.length yc] 38); have hs6 : w5.heap.size < (w5.alloc (.cells #[.int .i64 s2.role, .int .i64 s2.step, .int .i64 s2.sent, .int .i64 s2.got, .int .i64 s2.prev, .int .i64 s2.skip, .int .i64 s2.cap, .int .i64 s2.secret, .int .i64 pe2, .slice yv s2.kept.length yc] 38)).heap.size := (by simp); have hB6 := below_tr hb5x hA5; generalize (w5.alloc (.cells #[.int .i64 s2.role, .int .i64 s2.step, .int .i64 s2.sent, .int .i64 s2.got, .int .i64 s2.prev, .int .i64 s2.skip, .int .i64 s2.cap, .int .i64 s2.secret, .int .i64 pe2, .slice yv s2.kept.length yc] 38)) = w6 at hA5 hI6 hT6 hs6 hB6 ⊢; exact ⟨⟨w5.heap.size, yv, yc, rfl, rfl, hb5x.size, hs6, hT6, hI6, fun k hk => by have h8 := hF5 k hk; exact h8⟩, ⟨hB6.os, hB6.tape, hB6.output, hB6.size, hB6.block⟩⟩)
      case rest =>
        obtain ⟨⟨B, yv, yc, rfl, rfl, hBge, hBlt, hBB, hIB, hFB⟩, hb6⟩ := hcut; have hsz6 := hb6.size; have HP6 := hid ((hb6.block P hPc4).trans HP4.out)
        have HQ6 := hid ((hb6.block Q (by omega)).trans HQ4.out)
        have HR6 := hid (ownsRow_below HR4.out hb6)
        have HO6 := hid ((hb6.block w.heap.size (by omega)).trans HO4.out)
        have HW6 := hid (below_tr HW4.out hb6); have HL6 := hid ((hb6.block LB hlt4).trans HL4.out); have HBB := hid hBB; have HIB := hid hIB
        have HFB : Hid (FreshV w.heap.size (.slice yv s2.kept.length yc) ∧ ∀ k, (Value.slice yv s2.kept.length yc).ownBlock = some k → k ≠ P ∧ k ≠ g) := ⟨fun k hk => by have := hFB k hk; omega, fun k hk => by have := hFB k hk; omega⟩
        have hBne : B ≠ P ∧ B ≠ Q ∧ B ≠ g := ⟨by omega, by omega, by omega⟩
        clear p0 p1 p2 p3 p4 p5 p6 p7 p8 p9 p10 p11 l0 l1 l2 l3 l4 l5 l6 hb6 hBB hIB hFB HP4 HQ4 HR4 HO4 HW4 HV4 HL4 c3 hn1 hn2 hn3 hn4; have p0 : wc.cell? ⟨P, 0, none⟩ = some (.string d) := cell_of_row wc _ 0 _ _ _ HP6.out
        go_upto_region 13 with (first | (go_at_call 25; (with_reducible refine (c4 _).mono ?_); rintro e w8 ⟨rfl, hb8⟩))
        have hsz8 := hb8.size
        have HP8 := hid ((hb8.block P (by omega)).trans HP6.out)
        have HQ8 := hid ((hb8.block Q (by omega)).trans HQ6.out)
        have HR8 := hid (ownsRow_below HR6.out hb8)
        have HO8 := hid ((hb8.block w.heap.size (by omega)).trans HO6.out)
        have HW8 := hid (below_tr HW6.out hb8)
        have HL8 := hid ((hb8.block LB (by omega)).trans HL6.out)
        have HB8 := hid ((hb8.block B hBlt).trans HBB.out); have HI8 := hid (HIB.out.next hb8)
        have hB8 : B < w8.heap.size := by omega
        clear p0 hb8 HP6 HQ6 HR6 HO6 HW6 HL6 HBB HIB c4; have p0 : w8.cell? ⟨P, 0, none⟩ = some (.string d) := cell_of_row w8 _ 0 _ _ _ HP8.out; have p1 : w8.cell? ⟨P, 1, none⟩ = some (.int .i64 s.role) := cell_of_row w8 _ 1 _ _ _ HP8.out; have p2 : w8.cell? ⟨P, 2, none⟩ = some (.int .i64 s.step) := cell_of_row w8 _ 2 _ _ _ HP8.out; have p3 : w8.cell? ⟨P, 3, none⟩ = some (.int .i64 s.sent) := cell_of_row w8 _ 3 _ _ _ HP8.out; have p4 : w8.cell? ⟨P, 4, none⟩ = some (.int .i64 s.got) := cell_of_row w8 _ 4 _ _ _ HP8.out; have p5 : w8.cell? ⟨P, 5, none⟩ = some (.int .i64 s.prev) := cell_of_row w8 _ 5 _ _ _ HP8.out; have p6 : w8.cell? ⟨P, 6, none⟩ = some (.int .i64 s.skip) := cell_of_row w8 _ 6 _ _ _ HP8.out; have p7 : w8.cell? ⟨P, 7, none⟩ = some (.int .i64 s.cap) := cell_of_row w8 _ 7 _ _ _ HP8.out; have p8 : w8.cell? ⟨P, 8, none⟩ = some (.int .i64 s.secret) := cell_of_row w8 _ 8 _ _ _ HP8.out; have p9 : w8.cell? ⟨P, 9, none⟩ = some (.int .i64 pe) := cell_of_row w8 _ 9 _ _ _ HP8.out; have p10 : w8.cell? ⟨P, 10, none⟩ = some (.slice aa s.kept.length cc) := cell_of_row w8 _ 10 _ _ _ HP8.out; have p11 : w8.cell? ⟨P, 11, none⟩ = some (pl) := cell_of_row w8 _ 11 _ _ _ HP8.out; have l0 : w8.cell? ⟨LB, 0, none⟩ = some (.string by0) := cell_of_row w8 _ 0 _ _ _ HL8.out; have l1 : w8.cell? ⟨LB, 1, none⟩ = some (.string tx0) := cell_of_row w8 _ 1 _ _ _ HL8.out; have l2 : w8.cell? ⟨LB, 2, none⟩ = some (.int .i64 lx.step) := cell_of_row w8 _ 2 _ _ _ HL8.out; have l3 : w8.cell? ⟨LB, 3, none⟩ = some (.int .i64 lx.count) := cell_of_row w8 _ 3 _ _ _ HL8.out; have l4 : w8.cell? ⟨LB, 4, none⟩ = some (.int .i64 lx.prev) := cell_of_row w8 _ 4 _ _ _ HL8.out; have l5 : w8.cell? ⟨LB, 5, none⟩ = some (.int .i64 lx.secret) := cell_of_row w8 _ 5 _ _ _ HL8.out; have l6 : w8.cell? ⟨LB, 6, none⟩ = some (.bool lx.out) := cell_of_row w8 _ 6 _ _ _ HL8.out; have o5 : w8.cell? ⟨w.heap.size, 5, none⟩ = some (.bool false) := cell_of_row w8 _ 5 _ _ _ HO8.out
        rw [HOUT.out] at l6
        have hz6 := ltRow7 HR8.out HI.out 6 (by omega)
        rw [HLX.out] at hz6
        have z6 : w8.cell? ⟨g, i * 7 + 6, none⟩ = some (.bool lx.out) := hz6; have q11 : w8.cell? ⟨Q, 11, none⟩ = some (.slice (some ⟨g, 0, none⟩) L.length xc) := cell_of_row w8 _ 11 _ _ _ HQ8.out
        have fG : ∀ j, w8.frozen? ⟨g, j, none⟩ = false := fun j => HR8.out.frozenAt j
        clear hz6
        go_upto_region 26 with fail
        have hP9 := (heap_setCell_other w8 ⟨g, i * 7 + 6, none⟩ (P) (.bool true) (by show P ≠ g; omega)).trans HP8.out
        have hQ9 := (heap_setCell_other w8 ⟨g, i * 7 + 6, none⟩ (Q) (.bool true) (by show Q ≠ g; omega)).trans HQ8.out
        have hB9 := (heap_setCell_other w8 ⟨g, i * 7 + 6, none⟩ (B) (.bool true) (by show B ≠ g; omega)).trans HB8.out
        have hR9 : (w8.setCell ⟨g, i * 7 + 6, none⟩ (.bool true)).ownsRow base 63 7 (.slice (some ⟨g, 0, none⟩) L.length xc) L.length ((ltsC L).set (i * 7 + 6) (.bool true)) := (HR8.out.stored _ _).1
        have hN9 : Only (fun b => b = P ∨ (Value.slice (some ⟨g, 0, none⟩) L.length xc).ownBlock = some b) w (w8.setCell ⟨g, i * 7 + 6, none⟩ (.bool true)) := Only.set (S := fun b => b = P ∨ (Value.slice (some ⟨g, 0, none⟩) L.length xc).ownBlock = some b) (Only.of_below HW8.out) (b := g) (.inr rfl) _
        have hI9 : IdsAt (w8.setCell ⟨g, i * 7 + 6, none⟩ (.bool true)) (.slice yv s2.kept.length yc) s2.kept := HI8.out.only (S := fun k => k = g) (onlyR_set (Only.refl _ _)) (fun _ k hk q => (HFB.out.2 k hk).2 q)
        clear p0 p1 p2 p3 p4 p5 p6 p7 p8 p9 p10 p11 l0 l1 l2 l3 l4 l5 l6 o5 z6 q11 fG
        generalize (w8.setCell ⟨g, i * 7 + 6, none⟩ (.bool true)) = w9 at hP9 hQ9 hB9 hR9 hN9 hI9 ⊢
        have HQ9 := hid hQ9; have HR9 := hid hR9; have HN9 := hid hN9; have HI9 := hid hI9; have HP9 := hid hP9; obtain ⟨b0, b1, b2, b3, b4, b5, b6, b7, b8, b9⟩ := cells10 hB9; have p0 : w9.cell? ⟨P, 0, none⟩ = some (.string d) := cell_of_row w9 _ 0 _ _ _ hP9; have p1 : w9.cell? ⟨P, 1, none⟩ = some (.int .i64 s.role) := cell_of_row w9 _ 1 _ _ _ hP9; have p2 : w9.cell? ⟨P, 2, none⟩ = some (.int .i64 s.step) := cell_of_row w9 _ 2 _ _ _ hP9; have p3 : w9.cell? ⟨P, 3, none⟩ = some (.int .i64 s.sent) := cell_of_row w9 _ 3 _ _ _ hP9; have p4 : w9.cell? ⟨P, 4, none⟩ = some (.int .i64 s.got) := cell_of_row w9 _ 4 _ _ _ hP9; have p5 : w9.cell? ⟨P, 5, none⟩ = some (.int .i64 s.prev) := cell_of_row w9 _ 5 _ _ _ hP9; have p6 : w9.cell? ⟨P, 6, none⟩ = some (.int .i64 s.skip) := cell_of_row w9 _ 6 _ _ _ hP9; have p7 : w9.cell? ⟨P, 7, none⟩ = some (.int .i64 s.cap) := cell_of_row w9 _ 7 _ _ _ hP9; have p8 : w9.cell? ⟨P, 8, none⟩ = some (.int .i64 s.secret) := cell_of_row w9 _ 8 _ _ _ hP9; have p9 : w9.cell? ⟨P, 9, none⟩ = some (.int .i64 pe) := cell_of_row w9 _ 9 _ _ _ hP9; have p10 : w9.cell? ⟨P, 10, none⟩ = some (.slice aa s.kept.length cc) := cell_of_row w9 _ 10 _ _ _ hP9; have p11 : w9.cell? ⟨P, 11, none⟩ = some (pl) := cell_of_row w9 _ 11 _ _ _ hP9
        have fP : ∀ j, w9.frozen? ⟨P, j, none⟩ = false := fun j => frozen_of_row w9 _ j _ _ hP9
        clear hP9 hQ9 hB9 hR9 hN9 hI9 HP8 HQ8 HB8 HR8 HO8 HW8 HL8 HI8
        go_upto_region 27 with fail
        obtain ⟨wA, hwA, hXA, hNA⟩ := storeP HP9.out (.int .i64 s2.role) (.int .i64 s2.step) (.int .i64 s2.sent) (.int .i64 s2.got) (.int .i64 s2.prev) (.int .i64 s2.skip) (.int .i64 s2.cap) (.int .i64 s2.secret) (.int .i64 pe2) (.slice yv s2.kept.length yc); rw [← hwA]; clear hwA b0 b1 b2 b3 b4 b5 b6 b7 b8 b9 p0 p1 p2 p3 p4 p5 p6 p7 p8 p9 p10 p11 fP; have HXA := hid hXA
        have HQA := hid ((hNA.block Q (by have := HN9.out.size; omega) (by omega)).trans HQ9.out)
        have HRA := hid (hNA.own HR9.out (fun q hq h => by have := (HR9.out.lt q hq).1; omega))
        have HNA : Hid (Only (fun b => b = P ∨ (Value.slice (some ⟨g, 0, none⟩) L.length xc).ownBlock = some b) w wA) := HN9.out.trans (hNA.mono (fun q _ h => .inl h))
        have HIA := hid (HI9.out.only hNA (fun _ k hk q => (HFB.out.2 k hk).1 q))
        have p0 : wA.cell? ⟨P, 0, none⟩ = some (.string d) := cell_of_row wA _ 0 _ _ _ hXA
        have fP : ∀ j, wA.frozen? ⟨P, j, none⟩ = false := fun j => frozen_of_row wA _ j _ _ hXA
        clear hXA hNA; go_wp2; go_ret
        refine ⟨rfl, ⟨yv, yc, heap_setCell_same _ _ _ _ _ _ HXA.out, HIA.out.only (S := fun k => k = P) (onlyR_set (Only.refl _ _)) (fun _ k hk q => (HFB.out.2 k hk).1 q), HFB.out.1⟩, (heap_setCell_other _ _ _ _ (by show Q ≠ P; omega)).trans HQA.out, ?_, HNA.out.set (b := P) (.inl rfl) _⟩
        rw [← HSET.out.1, HSET.out.2]
        exact ownsRow_setCell_below HRA.out (by exact hPb) _
set_option maxHeartbeats 4000000 in
theorem take_cut (P Q base : Nat) (d dq : ByteArray) (s : StM) (pe : Int) (aa : Option Addr) (cc : Nat) (pl : Value) (e1 e2 e3 e4 e5 e6 e7 e8 e9 e10 : Value) (xv : Option Addr) (xn xc : Nat) (L : List LtM) (lx : LtM) (i : Nat) (pub dn : Nat) (kd who pn dr f0 f1 : Int) (tx k1 k2 : ByteArray) (k : Nat) (w : World) (hP : w.heap[P]? = some (.cells #[.string d, .int .i64 s.role, .int .i64 s.step, .int .i64 s.sent, .int .i64 s.got, .int .i64 s.prev, .int .i64 s.skip, .int .i64 s.cap, .int .i64 s.secret, .int .i64 pe, .slice aa s.kept.length cc, pl] 41)) (hQ : w.heap[Q]? = some (.cells #[.string dq, e1, e2, e3, e4, e5, e6, e7, e8, e9, e10, .slice xv xn xc] 41)) (hrow : w.ownsRow base 63 7 (.slice xv xn xc) L.length (ltsC L)) (hPb : P < base) (hQb : Q < base) (hPQ : P ≠ Q) (hbase : base ≤ w.heap.size) (hL : L.length ≤ 2000) (hi : i < L.length) (hlx : (L.getD i ltZ) = lx) (hpi : pickN pn (L.length : Int) = (i : Int)) (hpn : (-9223372036854775808 ≤ pn ∧ pn ≤ 9223372036854775807)) (hdr : (-9223372036854775808 ≤ dr ∧ dr ≤ 9223372036854775807)) (hdn : secN dr = (dn : Int)) (hbs : lx.bytes.length ≤ 1000) (hg : GoodD d.data.toList k) (hv : IdsAt w (.slice aa s.kept.length cc) s.kept) (hq : LawQ s) (hkc : s.kept.length ≤ s.cap) (hf : ¬ (s.step + 1 < lx.step ∨ lx.step % 2 = s.step % 2)) (h1 : 1 ≤ lx.step) (hc : lx.count ≤ 49) (hp : lx.prev ≤ 50) (herr : recvErr d.data.toList lx.bytes (dn : Int) = 0) (htxt : recvTxt d.data.toList lx.bytes (dn : Int) = lx.text) (hke : (keyR s (letQ lx.step lx.count lx.prev pub) dn).1 = 0) (s2 : StM) (hs2 : capS (keyR s (letQ lx.step lx.count lx.prev pub) dn).2.2 = s2) (pe2 : Int) (hpe2 : (if lx.step = s.step + 1 then (lx.secret : Int) else pe) = pe2) (hf0 : (-9223372036854775808 ≤ f0 ∧ f0 ≤ 9223372036854775807)) (hf1 : (-9223372036854775808 ≤ f1 ∧ f1 ≤ 9223372036854775807)) (hk1s : k1.size ≤ maxLen) (hk2s : k2.size ≤ maxLen) :
    Calls Try.prog 18 #[.pointer (some ⟨P, 0, none⟩), .pointer (some ⟨Q, 0, none⟩), .agg #[.int .i64 kd, .int .i64 who, .int .i64 pn, .int .i64 dr, .string tx, .bool true, .int .i64 f0, .int .i64 f1, .string k1, .string k2]] w fun e w' => e = .returned (.bool true) ∧ (w'.heap[P]? = some (.cells #[.string d, .int .i64 s.role, .int .i64 s.step, .int .i64 s.sent, .int .i64 s.got, .int .i64 s.prev, .int .i64 s.skip, .int .i64 s.cap, .int .i64 s.secret, .int .i64 pe, .slice aa s.kept.length cc, pl] 41) ∨ ∃ (yv : Option Addr) (yc : Nat), w'.heap[P]? = some (.cells #[.string (str (recvTo d.data.toList lx.bytes (dn : Int))), .int .i64 s2.role, .int .i64 s2.step, .int .i64 s2.sent, .int .i64 s2.got, .int .i64 s2.prev, .int .i64 s2.skip, .int .i64 s2.cap, .int .i64 s2.secret, .int .i64 pe2, .slice yv s2.kept.length yc, pl] 41) ∧ IdsAt w' (.slice yv s2.kept.length yc) s2.kept ∧ FreshV w.heap.size (.slice yv s2.kept.length yc)) ∧ Only (fun b => b = P) w w' := by
  have hds : d.size = k * 32 := by rw [← len_list]; exact hg.len
  have hk2 := hg.k2; have hk1 := hg.k1
  have hdm : d.size ≤ maxLen := by unfold maxLen; omega
  have hbm : (str lx.bytes).size ≤ maxLen := by rw [str_size]; unfold maxLen; omega
  obtain ⟨g, cap, hxv, hgb, _⟩ := ltRow hrow hi
  injection hxv with x1 x2 x3
  subst x1 x2 x3; have hz := ltRow7 hrow hi
  rw [hlx] at hz
  have hz : ∀ j, j < 7 → w.cell? ⟨g, i * 7 + j, none⟩ = [.string (str lx.bytes), .string (str lx.text), .int .i64 lx.step, .int .i64 lx.count, .int .i64 lx.prev, .int .i64 lx.secret, .bool lx.out][j]? := hz; have hglt : g < w.heap.size := (hrow.lt g rfl).2
  have hgP : g ≠ P := by omega
  have hgQ : g ≠ Q := by omega
  have hPlt : P < w.heap.size := by omega
  have hQlt : Q < w.heap.size := by omega
  have hiL : (i : Int) < (L.length : Int) := by omega
  have hi0 : (0 : Int) ≤ (i : Int) := by omega
  have hL0 : ((L.length : Int) == 0) = false := by rw [beq_eq_false_iff_ne]; omega
  have c0 := fun w => pick_any pn (L.length : Int) w hpn.1 hpn.2 (by omega) (by omega)
  rw [hpi] at c0
  have c1 := fun w => secretOf_any dr w hdr.1 hdr.2
  rw [hdn] at c1
  have c2 := fun w => pawlReceive_any d (str lx.bytes) (dn : Int) w hdm hbm
  rw [str_toList] at c2
  have c3 := fun w hv => mayTake_any s pe aa cc lx pub dn w hv hq hkc hf h1 hc hp
  have HLX : Hid (L.getD i ltZ = lx) := hlx; have hne := recv_other hg lx.bytes (dn : Int) herr
  have hbq : ((str (recvTo d.data.toList lx.bytes (dn : Int))).toList == d.toList) = false := by
    rw [ByteArray.toList_eq, ByteArray.toList_eq, str_toList, beq_eq_false_iff_ne]; exact hne
  have hbq2 : (d.toList == (str (recvTo d.data.toList lx.bytes (dn : Int))).toList) = false := by
    rw [ByteArray.toList_eq, ByteArray.toList_eq, str_toList, beq_eq_false_iff_ne]; exact fun e => hne e.symm
  obtain ⟨k', hD, hk', hk1', hk2', hto, hplx, r1, r2, r3⟩ := recv_safe _ _ _ herr; obtain ⟨y1, y2⟩ := recsF_ok _ _ _ _ r1
  have hkk : k' = k := by rw [len_list] at hk'; omega
  subst hkk
  have c4 := fun w => carried_any d (rplR d.data.toList (recvTo d.data.toList lx.bytes (dn : Int)) (heldS d.data.toList).cap (liveL d.data.toList)) k' w hds hk2 y2 y1
  rw [← hplx, r2 []] at c4
  rw [herr, htxt] at c2
  have c3' : ∀ w, IdsAt w (.slice aa s.kept.length cc) s.kept → Calls Try.prog 31 #[.agg #[.int .i64 s.role, .int .i64 s.step, .int .i64 s.sent, .int .i64 s.got, .int .i64 s.prev, .int .i64 s.skip, .int .i64 s.cap, .int .i64 s.secret, .int .i64 pe, .slice aa s.kept.length cc], .agg #[.string (str lx.bytes), .string (str lx.text), .int .i64 lx.step, .int .i64 lx.count, .int .i64 lx.prev, .int .i64 lx.secret, .bool lx.out], .int .i64 dn] w fun e w' => (∃ (yv : Option Addr) (yc : Nat), e = .returned (.tuple #[.agg #[.int .i64 s2.role, .int .i64 s2.step, .int .i64 s2.sent, .int .i64 s2.got, .int .i64 s2.prev, .int .i64 s2.skip, .int .i64 s2.cap, .int .i64 s2.secret, .int .i64 pe2, .slice yv s2.kept.length yc], .int .i64 0]) ∧ IdsAt w' (.slice yv s2.kept.length yc) s2.kept ∧ FreshV w.heap.size (.slice yv s2.kept.length yc)) ∧ Below w.heap.size w w' := by
    intro w hv
    refine (c3 w hv).mono ?_
    rintro e w' ⟨ho, hb⟩
    refine ⟨?_, hb⟩
    rcases ho with ⟨ho, _⟩ | ⟨_, yv, yc, h1, h2, h3⟩
    · exact absurd hke ho
    · rw [hs2, hpe2] at h1
      rw [hs2] at h2 h3
      exact ⟨yv, yc, h1, h2, h3⟩
  have c6 : ∀ w, Calls Try.prog 29 #[.string d, .string (str (recvPlan d.data.toList lx.bytes (dn : Int))), .agg #[.int .i64 f0, .int .i64 f1, .string k1, .string k2]] w fun e w' => (∃ r : ByteArray, (r = d ∨ r = str (recvTo d.data.toList lx.bytes (dn : Int))) ∧ e = .returned (.tuple #[.string r, .bool true])) ∧ Below w.heap.size w w' := by
    intro w
    rw [hplx]
    refine (broken_any d _ k' f0 f1 k1 k2 (fun r => r = d.data.toList ∨ r = (recvTo d.data.toList lx.bytes (dn : Int))) w hds hk1 hk2 y2 y1 (fun m kq hm => ?_) hf0.1 hf0.2 hf1.1 hf1.2 hk1s hk2s).mono ?_
    · rcases r3 m kq hm with q | q
      · exact ⟨_, q, .inl rfl⟩
      · exact ⟨_, q, .inr rfl⟩
    · rintro e w' ⟨⟨r, hr, _, he⟩, hb⟩
      refine ⟨⟨str r, ?_, he⟩, hb⟩
      rcases hr with hr | hr
      · left; rw [hr]; exact str_of d
      · right; rw [hr]
  clear r3
  generalize str (recvTo d.data.toList lx.bytes (dn : Int)) = tt at *
  generalize str (recvPlan d.data.toList lx.bytes (dn : Int)) = pln at *
  clear c3 hs2 hpe2 hke herr htxt hne hD hk' hk1' hk2' hto hplx r1 r2 y1 y2; have c3 := c3'; clear c3'
  generalize str lx.bytes = by0 at *
  generalize str lx.text = tx0 at *
  clear hlx hpi hpn hdr hdn hbs hg hq hkc hf h1 hc hp hbm hdm
  go_enter Try.func18, Try.ntmps18
  go_upto_region 1 with fail
  obtain ⟨ob, eob⟩ : ∃ ob, ob = Obj.cells #[.int .i64 kd, .int .i64 who, .int .i64 pn, .int .i64 dr, .string tx, .bool true, .int .i64 f0, .int .i64 f1, .string k1, .string k2] 34 := ⟨_, rfl⟩
  rw [← eob]; have hO := heap_alloc_new w ob; have hWa : Below w.heap.size w (w.alloc ob) := (Below.refl _ _).alloc (Nat.le_refl _) _
  have hlt : w.heap.size < (w.alloc ob).heap.size := by simp
  generalize (w.alloc ob) = wa at hO hWa hlt ⊢
  subst eob; have HPa := hid ((hWa.block P hPlt).trans hP); have HQa := hid ((hWa.block Q hQlt).trans hQ); have HRa := hid (ownsRow_below hrow hWa); have HO := hid hO; have HWa := hid hWa; have HVa := hid (hv.next hWa)
  have HZ : Hid (∀ j, j < 7 → wa.cell? ⟨g, i * 7 + j, none⟩ = [.string by0, .string tx0, .int .i64 lx.step, .int .i64 lx.count, .int .i64 lx.prev, .int .i64 lx.secret, .bool lx.out][j]?) := fun j hj => (hWa.cell (p := ⟨g, i * 7 + j, none⟩) hglt).trans (hz j hj)
  have o2 : wa.cell? ⟨w.heap.size, 2, none⟩ = some (.int .i64 pn) := cell_of_row wa _ 2 _ _ _ hO; have q11 : wa.cell? ⟨Q, 11, none⟩ = some (.slice (some ⟨g, 0, none⟩) L.length xc) := cell_of_row wa _ 11 _ _ _ HQa.out; clear hO hWa hP hQ hrow hv hz
  go_upto_region 3 with fail
  go_cut [7] (fun x wx => x = .int .i64 i ∧ Below wa.heap.size wa wx)
  case first =>
    go_quiet (first | (go_at_call 12; exact Calls.quiet_of_same (c0 _)))
    all_goals (go_wp2_with fail)
    all_goals go_meet
    all_goals exact ⟨rfl, ⟨rfl, rfl, rfl, Nat.le_refl _, fun _ _ => rfl⟩⟩
  case rest =>
    obtain ⟨rfl, hb2⟩ := hcut; have hsz2 := hb2.size
    have HP2 := hid ((hb2.block P (by omega)).trans HPa.out)
    have HQ2 := hid ((hb2.block Q (by omega)).trans HQa.out)
    have HR2 := hid (ownsRow_below HRa.out hb2); have HO2 := hid ((hb2.block w.heap.size hlt).trans HO.out); have HW2 := hid (below_tr HWa.out hb2); have HV2 := hid (HVa.out.next hb2)
    have z0 : wc.cell? ⟨g, i * 7, none⟩ = some (.string by0) := (hb2.cell (p := ⟨g, i * 7, none⟩) (by show g < wa.heap.size; omega)).trans (HZ.out 0 (by omega))
    have z1 : wc.cell? ⟨g, i * 7 + 1, none⟩ = some (.string tx0) := (hb2.cell (p := ⟨g, i * 7 + 1, none⟩) (by show g < wa.heap.size; omega)).trans (HZ.out 1 (by omega))
    have z2 : wc.cell? ⟨g, i * 7 + 2, none⟩ = some (.int .i64 lx.step) := (hb2.cell (p := ⟨g, i * 7 + 2, none⟩) (by show g < wa.heap.size; omega)).trans (HZ.out 2 (by omega))
    have z3 : wc.cell? ⟨g, i * 7 + 3, none⟩ = some (.int .i64 lx.count) := (hb2.cell (p := ⟨g, i * 7 + 3, none⟩) (by show g < wa.heap.size; omega)).trans (HZ.out 3 (by omega))
    have z4 : wc.cell? ⟨g, i * 7 + 4, none⟩ = some (.int .i64 lx.prev) := (hb2.cell (p := ⟨g, i * 7 + 4, none⟩) (by show g < wa.heap.size; omega)).trans (HZ.out 4 (by omega))
    have z5 : wc.cell? ⟨g, i * 7 + 5, none⟩ = some (.int .i64 lx.secret) := (hb2.cell (p := ⟨g, i * 7 + 5, none⟩) (by show g < wa.heap.size; omega)).trans (HZ.out 5 (by omega))
    have z6 : wc.cell? ⟨g, i * 7 + 6, none⟩ = some (.bool lx.out) := (hb2.cell (p := ⟨g, i * 7 + 6, none⟩) (by show g < wa.heap.size; omega)).trans (HZ.out 6 (by omega))
    have q11' : wc.cell? ⟨Q, 11, none⟩ = some (.slice (some ⟨g, 0, none⟩) L.length xc) := cell_of_row wc _ 11 _ _ _ HQ2.out; clear o2 q11 hb2 HPa HQa HRa HO HWa HVa HZ c0
    go_upto_region 5 with fail
    have hLB := heap_alloc_new wc (.cells #[.string by0, .string tx0, .int .i64 lx.step, .int .i64 lx.count, .int .i64 lx.prev, .int .i64 lx.secret, .bool lx.out] 63); have hb3 : Below wc.heap.size wc (wc.alloc (.cells #[.string by0, .string tx0, .int .i64 lx.step, .int .i64 lx.count, .int .i64 lx.prev, .int .i64 lx.secret, .bool lx.out] 63)) := (Below.refl _ _).alloc (Nat.le_refl _) _
    have hlt3 : wc.heap.size < (wc.alloc (.cells #[.string by0, .string tx0, .int .i64 lx.step, .int .i64 lx.count, .int .i64 lx.prev, .int .i64 lx.secret, .bool lx.out] 63)).heap.size := by simp
    clear z0 z1 z2 z3 z4 z5 z6 q11'
    generalize (wc.alloc (.cells #[.string by0, .string tx0, .int .i64 lx.step, .int .i64 lx.count, .int .i64 lx.prev, .int .i64 lx.secret, .bool lx.out] 63)) = w3 at hLB hb3 hlt3 ⊢
    obtain ⟨LB, hLBe⟩ : ∃ LB, LB = wc.heap.size := ⟨_, rfl⟩
    have HLE := hid hLBe
    rw [← hLBe] at hLB hlt3 ⊢
    have hLBw : w.heap.size < LB := by rw [hLBe]; omega
    have HP3 := hid ((hb3.block P (by omega)).trans HP2.out)
    have HQ3 := hid ((hb3.block Q (by omega)).trans HQ2.out)
    have HR3 := hid (ownsRow_below HR2.out hb3)
    have HO3 := hid ((hb3.block w.heap.size (by omega)).trans HO2.out)
    have HW3 := hid (below_tr HW2.out hb3); have HV3 := hid (HV2.out.next hb3); have HL3 := hid hLB; have o3 : w3.cell? ⟨w.heap.size, 3, none⟩ = some (.int .i64 dr) := cell_of_row w3 _ 3 _ _ _ HO3.out; have p0 : w3.cell? ⟨P, 0, none⟩ = some (.string d) := cell_of_row w3 _ 0 _ _ _ HP3.out; have l0 : w3.cell? ⟨LB, 0, none⟩ = some (.string by0) := cell_of_row w3 _ 0 _ _ _ hLB; clear hLB hb3 hLBe HP2 HQ2 HR2 HO2 HW2 HV2
    go_upto_region 6 with (first | (go_at_call 10; go_must (with_reducible refine (c1 _).mono ?_); rintro e w' ⟨rfl, hw⟩; rw [hw]; clear hw w'))
    go_cut [10, 11, 12] (fun x y z wx => x = .string tx0 ∧ y = .string pln ∧ z = .int .i64 0 ∧ Below w3.heap.size w3 wx)
    case first =>
      go_region_held3 (fun w' => w'.cell? ⟨P, 0, none⟩ = some (.string d) ∧ w'.cell? ⟨LB, 0, none⟩ = some (.string by0)) (first | (simp [p0, l0]; done) | (simp [g0, gl]; done)) (first | (go_at_call 26; go_must (with_reducible refine (c2 _).mono ?_); rintro e w4 ⟨rfl, hb4⟩; have hb4x : Below w3.heap.size w3 w4 := ⟨hb4.os, hb4.tape, hb4.output, hb4.size, hb4.block⟩; have g0 : w4.cell? ⟨P, 0, none⟩ = some (.string d) := cell_of_row w4 _ 0 _ _ _ ((hb4x.block P (by omega)).trans HP3.out); have gl : w4.cell? ⟨LB, 0, none⟩ = some (.string by0) := cell_of_row w4 _ 0 _ _ _ ((hb4x.block LB hlt3).trans HL3.out)))
      all_goals (go_wp2_with fail)
      all_goals go_meet
      all_goals exact ⟨rfl, rfl, rfl, ⟨hb4x.os, hb4x.tape, hb4x.output, hb4x.size, hb4x.block⟩⟩
    case rest =>
      obtain ⟨rfl, rfl, rfl, hb4⟩ := hcut; clear o3 p0 l0 c1 c2; have hsz4 := hb4.size
      have HP4 := hid ((hb4.block P (by omega)).trans HP3.out)
      have HQ4 := hid ((hb4.block Q (by omega)).trans HQ3.out)
      have HR4 := hid (ownsRow_below HR3.out hb4)
      have HO4 := hid ((hb4.block w.heap.size (by omega)).trans HO3.out)
      have HW4 := hid (below_tr HW3.out hb4); have HV4 := hid (HV3.out.next hb4); have HL4 := hid ((hb4.block LB hlt3).trans HL3.out)
      have hlt4 : LB < wc.heap.size := by omega
      have hPc4 : P < wc.heap.size := by omega
      have hn1 : ¬ wc.heap.size = P := by omega
      have hn2 : ¬ P = wc.heap.size := by omega
      have hn3 : ¬ wc.heap.size = LB := by omega
      have hn4 : ¬ LB = wc.heap.size := by omega
      clear hb4 HP3 HQ3 HR3 HO3 HW3 HV3 HL3 hlt3; have p0 : wc.cell? ⟨P, 0, none⟩ = some (.string d) := cell_of_row wc _ 0 _ _ _ HP4.out; have p1 : wc.cell? ⟨P, 1, none⟩ = some (.int .i64 s.role) := cell_of_row wc _ 1 _ _ _ HP4.out; have p2 : wc.cell? ⟨P, 2, none⟩ = some (.int .i64 s.step) := cell_of_row wc _ 2 _ _ _ HP4.out; have p3 : wc.cell? ⟨P, 3, none⟩ = some (.int .i64 s.sent) := cell_of_row wc _ 3 _ _ _ HP4.out; have p4 : wc.cell? ⟨P, 4, none⟩ = some (.int .i64 s.got) := cell_of_row wc _ 4 _ _ _ HP4.out; have p5 : wc.cell? ⟨P, 5, none⟩ = some (.int .i64 s.prev) := cell_of_row wc _ 5 _ _ _ HP4.out; have p6 : wc.cell? ⟨P, 6, none⟩ = some (.int .i64 s.skip) := cell_of_row wc _ 6 _ _ _ HP4.out; have p7 : wc.cell? ⟨P, 7, none⟩ = some (.int .i64 s.cap) := cell_of_row wc _ 7 _ _ _ HP4.out; have p8 : wc.cell? ⟨P, 8, none⟩ = some (.int .i64 s.secret) := cell_of_row wc _ 8 _ _ _ HP4.out; have p9 : wc.cell? ⟨P, 9, none⟩ = some (.int .i64 pe) := cell_of_row wc _ 9 _ _ _ HP4.out; have p10 : wc.cell? ⟨P, 10, none⟩ = some (.slice aa s.kept.length cc) := cell_of_row wc _ 10 _ _ _ HP4.out; have p11 : wc.cell? ⟨P, 11, none⟩ = some (pl) := cell_of_row wc _ 11 _ _ _ HP4.out; have l0 : wc.cell? ⟨LB, 0, none⟩ = some (.string by0) := cell_of_row wc _ 0 _ _ _ HL4.out; have l1 : wc.cell? ⟨LB, 1, none⟩ = some (.string tx0) := cell_of_row wc _ 1 _ _ _ HL4.out; have l2 : wc.cell? ⟨LB, 2, none⟩ = some (.int .i64 lx.step) := cell_of_row wc _ 2 _ _ _ HL4.out; have l3 : wc.cell? ⟨LB, 3, none⟩ = some (.int .i64 lx.count) := cell_of_row wc _ 3 _ _ _ HL4.out; have l4 : wc.cell? ⟨LB, 4, none⟩ = some (.int .i64 lx.prev) := cell_of_row wc _ 4 _ _ _ HL4.out; have l5 : wc.cell? ⟨LB, 5, none⟩ = some (.int .i64 lx.secret) := cell_of_row wc _ 5 _ _ _ HL4.out; have l6 : wc.cell? ⟨LB, 6, none⟩ = some (.bool lx.out) := cell_of_row wc _ 6 _ _ _ HL4.out
      go_upto_region 7 with fail
      go_cut [13, 14] (fun x y wx => (∃ (B : Nat) (yv : Option Addr) (yc : Nat), x = .pointer (some ⟨B, 0, none⟩) ∧ y = .int .i64 0 ∧ wc.heap.size ≤ B ∧ B < wx.heap.size ∧ wx.heap[B]? = some (.cells #[.int .i64 s2.role, .int .i64 s2.step, .int .i64 s2.sent, .int .i64 s2.got, .int .i64 s2.prev, .int .i64 s2.skip, .int .i64 s2.cap, .int .i64 s2.secret, .int .i64 pe2, .slice yv s2.kept.length yc] 38) ∧ IdsAt wx (.slice yv s2.kept.length yc) s2.kept ∧ FreshV wc.heap.size (.slice yv s2.kept.length yc)) ∧ Below wc.heap.size wc wx)
      case first =>
        go_region_held3 (fun w' => w'.cell? ⟨P, 1, none⟩ = some (.int .i64 s.role) ∧ w'.cell? ⟨P, 2, none⟩ = some (.int .i64 s.step) ∧ w'.cell? ⟨P, 3, none⟩ = some (.int .i64 s.sent) ∧ w'.cell? ⟨P, 4, none⟩ = some (.int .i64 s.got) ∧ w'.cell? ⟨P, 5, none⟩ = some (.int .i64 s.prev) ∧ w'.cell? ⟨P, 6, none⟩ = some (.int .i64 s.skip) ∧ w'.cell? ⟨P, 7, none⟩ = some (.int .i64 s.cap) ∧ w'.cell? ⟨P, 8, none⟩ = some (.int .i64 s.secret) ∧ w'.cell? ⟨P, 9, none⟩ = some (.int .i64 pe) ∧ w'.cell? ⟨P, 10, none⟩ = some (.slice aa s.kept.length cc) ∧ w'.cell? ⟨LB, 0, none⟩ = some (.string by0) ∧ w'.cell? ⟨LB, 1, none⟩ = some (.string tx0) ∧ w'.cell? ⟨LB, 2, none⟩ = some (.int .i64 lx.step) ∧ w'.cell? ⟨LB, 3, none⟩ = some (.int .i64 lx.count) ∧ w'.cell? ⟨LB, 4, none⟩ = some (.int .i64 lx.prev) ∧ w'.cell? ⟨LB, 5, none⟩ = some (.int .i64 lx.secret) ∧ w'.cell? ⟨LB, 6, none⟩ = some (.bool lx.out)) (first | (simp [p1, p2, p3, p4, p5, p6, p7, p8, p9, p10, l0, l1, l2, l3, l4, l5, l6]; done) | (simp (maxDischargeDepth := 20) [p1, p2, p3, p4, p5, p6, p7, p8, p9, p10, l0, l1, l2, l3, l4, l5, l6, World.cell?_alloc_some]; done) | (simp [gp1, gp2, gp3, gp4, gp5, gp6, gp7, gp8, gp9, gp10, gl0, gl1, gl2, gl3, gl4, gl5, gl6, hP5, hL5]; done) | (simp (maxDischargeDepth := 20) [gp1, gp2, gp3, gp4, gp5, gp6, gp7, gp8, gp9, gp10, gl0, gl1, gl2, gl3, gl4, gl5, gl6, hP5, hL5, World.cell?_alloc_some]; done) | (simp (maxDischargeDepth := 40) [gp1, gp2, gp3, gp4, gp5, gp6, gp7, gp8, gp9, gp10, gl0, gl1, gl2, gl3, gl4, gl5, gl6, World.cell?_setCell_far, hn1, hn2, hn3, hn4]; done)) (first | (go_at_call 31; go_must (with_reducible refine (c3 _ (HV4.out.next (by first | exact (Below.refl _ _).drew | exact Below.refl _ _ | exact ((Below.refl _ _).alloc (Nat.le_refl _) _).drew | exact (Below.refl _ _).alloc (Nat.le_refl _) _))).mono ?_); rintro e w5 ⟨⟨yv, yc, rfl, hI5, hF5⟩, hb5⟩; have hb5x : Below wc.heap.size wc w5 := (by first | exact ⟨hb5.os, hb5.tape, hb5.output, hb5.size, hb5.block⟩ | exact below_tr (((Below.refl _ _).alloc (Nat.le_refl _) _).drew) hb5 | exact below_tr ((Below.refl _ _).alloc (Nat.le_refl _) _) hb5); (try (have hBz : w5.heap[wc.heap.size]? = some (.cells #[.int .i64 0, .int .i64 0, .int .i64 0, .int .i64 0, .int .i64 0, .int .i64 0, .int .i64 0, .int .i64 0, .int .i64 0, .slice none 0 0] 38) := (hb5.block wc.heap.size (by simp)).trans (heap_alloc_new wc _); obtain ⟨bz0, bz1, bz2, bz3, bz4, bz5, bz6, bz7, bz8, bz9⟩ := cells10 hBz; have fBz : ∀ j, w5.frozen? ⟨wc.heap.size, j, none⟩ = false := fun j => frozen_of_row w5 _ j _ _ hBz)); have hPx := (hb5x.block P (by omega)).trans HP4.out; have hLx := (hb5x.block LB hlt4).trans HL4.out; have gp1 : w5.cell? ⟨P, 1, none⟩ = some (.int .i64 s.role) := cell_of_row w5 _ 1 _ _ _ hPx; have gp2 : w5.cell? ⟨P, 2, none⟩ = some (.int .i64 s.step) := cell_of_row w5 _ 2 _ _ _ hPx; have gp3 : w5.cell? ⟨P, 3, none⟩ = some (.int .i64 s.sent) := cell_of_row w5 _ 3 _ _ _ hPx; have gp4 : w5.cell? ⟨P, 4, none⟩ = some (.int .i64 s.got) := cell_of_row w5 _ 4 _ _ _ hPx; have gp5 : w5.cell? ⟨P, 5, none⟩ = some (.int .i64 s.prev) := cell_of_row w5 _ 5 _ _ _ hPx; have gp6 : w5.cell? ⟨P, 6, none⟩ = some (.int .i64 s.skip) := cell_of_row w5 _ 6 _ _ _ hPx; have gp7 : w5.cell? ⟨P, 7, none⟩ = some (.int .i64 s.cap) := cell_of_row w5 _ 7 _ _ _ hPx; have gp8 : w5.cell? ⟨P, 8, none⟩ = some (.int .i64 s.secret) := cell_of_row w5 _ 8 _ _ _ hPx; have gp9 : w5.cell? ⟨P, 9, none⟩ = some (.int .i64 pe) := cell_of_row w5 _ 9 _ _ _ hPx; have gp10 : w5.cell? ⟨P, 10, none⟩ = some (.slice aa s.kept.length cc) := cell_of_row w5 _ 10 _ _ _ hPx; have gl0 : w5.cell? ⟨LB, 0, none⟩ = some (.string by0) := cell_of_row w5 _ 0 _ _ _ hLx; have gl1 : w5.cell? ⟨LB, 1, none⟩ = some (.string tx0) := cell_of_row w5 _ 1 _ _ _ hLx; have gl2 : w5.cell? ⟨LB, 2, none⟩ = some (.int .i64 lx.step) := cell_of_row w5 _ 2 _ _ _ hLx; have gl3 : w5.cell? ⟨LB, 3, none⟩ = some (.int .i64 lx.count) := cell_of_row w5 _ 3 _ _ _ hLx; have gl4 : w5.cell? ⟨LB, 4, none⟩ = some (.int .i64 lx.prev) := cell_of_row w5 _ 4 _ _ _ hLx; have gl5 : w5.cell? ⟨LB, 5, none⟩ = some (.int .i64 lx.secret) := cell_of_row w5 _ 5 _ _ _ hLx; have gl6 : w5.cell? ⟨LB, 6, none⟩ = some (.bool lx.out) := cell_of_row w5 _ 6 _ _ _ hLx; have hP5 : P < w5.heap.size := (by have := hb5x.size; omega); have hL5 : LB < w5.heap.size := (by have := hb5x.size; omega); clear hPx hLx))
        all_goals (go_wp2_with fail)
        all_goals go_meet
        all_goals first | (obtain ⟨wz, hwz, hbz, hnz⟩ := store10 hBz (.int .i64 s2.role) (.int .i64 s2.step) (.int .i64 s2.sent) (.int .i64 s2.got) (.int .i64 s2.prev) (.int .i64 s2.skip) (.int .i64 s2.cap) (.int .i64 s2.secret) (.int .i64 pe2) (.slice yv s2.kept.length yc); rw [← hwz]; have hnB := hnz.size; exact ⟨⟨wc.heap.size, yv, yc, rfl, rfl, Nat.le_refl _, (by have h9 : wc.heap.size < w5.heap.size := (by have := hb5.size; simp at this; omega); show wc.heap.size < wz.heap.size; omega), hbz, hI5.only hnz (fun _ k hk q => by have h8 := hF5 k hk; simp at h8; omega), fun k hk => by have h8 := hF5 k hk; simp at h8; omega⟩, (by have h7 := hb5x.trans (hnz.below hb5x.size (fun k q => by omega)); exact ⟨h7.os, h7.tape, h7.output, h7.size, h7.block⟩)⟩) | (have hA5 : Below w5.heap.size w5 (w5.alloc (.cells #[.int .i64 s2.role, .int .i64 s2.step, .int .i64 s2.sent, .int .i64 s2.got, .int .i64 s2.prev, .int .i64 s2.skip, .int .i64 s2.cap, .int .i64 s2.secret, .int .i64 pe2, .slice yv s2.kept.length yc] 38)) := (Below.refl _ _).alloc (Nat.le_refl _) _; have hI6 := hI5.next hA5; have hT6 := heap_alloc_new w5 (.cells #[.int .i64 s2.role, .int .i64 s2.step, .int .i64 s2.sent, .int .i64 s2.got, .int .i64 s2.prev, .int .i64 s2.skip, .int .i64 s2.cap, .int .i64 s2.secret, .int .i64 pe2, .slice yv s2.kept.length yc] 38); have hs6 : w5.heap.size < (w5.alloc (.cells #[.int .i64 s2.role, .int .i64 s2.step, .int .i64 s2.sent, .int .i64 s2.got, .int .i64 s2.prev, .int .i64 s2.skip, .int .i64 s2.cap, .int .i64 s2.secret, .int .i64 pe2, .slice yv s2.kept.length yc] 38)).heap.size := (by simp); have hB6 := below_tr hb5x hA5; generalize (w5.alloc (.cells #[.int .i64 s2.role, .int .i64 s2.step, .int .i64 s2.sent, .int .i64 s2.got, .int .i64 s2.prev, .int .i64 s2.skip, .int .i64 s2.cap, .int .i64 s2.secret, .int .i64 pe2, .slice yv s2.kept.length yc] 38)) = w6 at hA5 hI6 hT6 hs6 hB6 ⊢; exact ⟨⟨w5.heap.size, yv, yc, rfl, rfl, hb5x.size, hs6, hT6, hI6, fun k hk => by have h8 := hF5 k hk; exact h8⟩, ⟨hB6.os, hB6.tape, hB6.output, hB6.size, hB6.block⟩⟩)
      case rest =>
        obtain ⟨⟨B, yv, yc, rfl, rfl, hBge, hBlt, hBB, hIB, hFB⟩, hb6⟩ := hcut; have hsz6 := hb6.size; have HP6 := hid ((hb6.block P hPc4).trans HP4.out)
        have HQ6 := hid ((hb6.block Q (by omega)).trans HQ4.out)
        have HR6 := hid (ownsRow_below HR4.out hb6)
        have HO6 := hid ((hb6.block w.heap.size (by omega)).trans HO4.out)
        have HW6 := hid (below_tr HW4.out hb6); have HL6 := hid ((hb6.block LB hlt4).trans HL4.out); have HBB := hid hBB; have HIB := hid hIB
        have HFB : Hid (FreshV w.heap.size (.slice yv s2.kept.length yc) ∧ ∀ k, (Value.slice yv s2.kept.length yc).ownBlock = some k → k ≠ P ∧ k ≠ g) := ⟨fun k hk => by have := hFB k hk; omega, fun k hk => by have := hFB k hk; omega⟩
        have hBne : B ≠ P ∧ B ≠ Q ∧ B ≠ g := ⟨by omega, by omega, by omega⟩
        clear p0 p1 p2 p3 p4 p5 p6 p7 p8 p9 p10 p11 l0 l1 l2 l3 l4 l5 l6 hb6 hBB hIB hFB HP4 HQ4 HR4 HO4 HW4 HV4 HL4 c3 hn1 hn2 hn3 hn4; have p0 : wc.cell? ⟨P, 0, none⟩ = some (.string d) := cell_of_row wc _ 0 _ _ _ HP6.out
        go_upto_region 13 with (first | (go_at_call 25; (with_reducible refine (c4 _).mono ?_); rintro e w8 ⟨rfl, hb8⟩))
        have hsz8 := hb8.size
        have HP8 := hid ((hb8.block P (by omega)).trans HP6.out)
        have HQ8 := hid ((hb8.block Q (by omega)).trans HQ6.out)
        have HR8 := hid (ownsRow_below HR6.out hb8)
        have HO8 := hid ((hb8.block w.heap.size (by omega)).trans HO6.out)
        have HW8 := hid (below_tr HW6.out hb8)
        have HL8 := hid ((hb8.block LB (by omega)).trans HL6.out)
        have HB8 := hid ((hb8.block B hBlt).trans HBB.out); have HI8 := hid (HIB.out.next hb8)
        have hB8 : B < w8.heap.size := by omega
        clear p0 hb8 HP6 HQ6 HR6 HO6 HW6 HL6 HBB HIB c4; have p0 : w8.cell? ⟨P, 0, none⟩ = some (.string d) := cell_of_row w8 _ 0 _ _ _ HP8.out; have p1 : w8.cell? ⟨P, 1, none⟩ = some (.int .i64 s.role) := cell_of_row w8 _ 1 _ _ _ HP8.out; have p2 : w8.cell? ⟨P, 2, none⟩ = some (.int .i64 s.step) := cell_of_row w8 _ 2 _ _ _ HP8.out; have p3 : w8.cell? ⟨P, 3, none⟩ = some (.int .i64 s.sent) := cell_of_row w8 _ 3 _ _ _ HP8.out; have p4 : w8.cell? ⟨P, 4, none⟩ = some (.int .i64 s.got) := cell_of_row w8 _ 4 _ _ _ HP8.out; have p5 : w8.cell? ⟨P, 5, none⟩ = some (.int .i64 s.prev) := cell_of_row w8 _ 5 _ _ _ HP8.out; have p6 : w8.cell? ⟨P, 6, none⟩ = some (.int .i64 s.skip) := cell_of_row w8 _ 6 _ _ _ HP8.out; have p7 : w8.cell? ⟨P, 7, none⟩ = some (.int .i64 s.cap) := cell_of_row w8 _ 7 _ _ _ HP8.out; have p8 : w8.cell? ⟨P, 8, none⟩ = some (.int .i64 s.secret) := cell_of_row w8 _ 8 _ _ _ HP8.out; have p9 : w8.cell? ⟨P, 9, none⟩ = some (.int .i64 pe) := cell_of_row w8 _ 9 _ _ _ HP8.out; have p10 : w8.cell? ⟨P, 10, none⟩ = some (.slice aa s.kept.length cc) := cell_of_row w8 _ 10 _ _ _ HP8.out; have p11 : w8.cell? ⟨P, 11, none⟩ = some (pl) := cell_of_row w8 _ 11 _ _ _ HP8.out; have l0 : w8.cell? ⟨LB, 0, none⟩ = some (.string by0) := cell_of_row w8 _ 0 _ _ _ HL8.out; have l1 : w8.cell? ⟨LB, 1, none⟩ = some (.string tx0) := cell_of_row w8 _ 1 _ _ _ HL8.out; have l2 : w8.cell? ⟨LB, 2, none⟩ = some (.int .i64 lx.step) := cell_of_row w8 _ 2 _ _ _ HL8.out; have l3 : w8.cell? ⟨LB, 3, none⟩ = some (.int .i64 lx.count) := cell_of_row w8 _ 3 _ _ _ HL8.out; have l4 : w8.cell? ⟨LB, 4, none⟩ = some (.int .i64 lx.prev) := cell_of_row w8 _ 4 _ _ _ HL8.out; have l5 : w8.cell? ⟨LB, 5, none⟩ = some (.int .i64 lx.secret) := cell_of_row w8 _ 5 _ _ _ HL8.out; have l6 : w8.cell? ⟨LB, 6, none⟩ = some (.bool lx.out) := cell_of_row w8 _ 6 _ _ _ HL8.out; have o5 : w8.cell? ⟨w.heap.size, 5, none⟩ = some (.bool true) := cell_of_row w8 _ 5 _ _ _ HO8.out; have o6 : w8.cell? ⟨w.heap.size, 6, none⟩ = some (.int .i64 f0) := cell_of_row w8 _ 6 _ _ _ HO8.out; have o7 : w8.cell? ⟨w.heap.size, 7, none⟩ = some (.int .i64 f1) := cell_of_row w8 _ 7 _ _ _ HO8.out; have o8 : w8.cell? ⟨w.heap.size, 8, none⟩ = some (.string k1) := cell_of_row w8 _ 8 _ _ _ HO8.out; have o9 : w8.cell? ⟨w.heap.size, 9, none⟩ = some (.string k2) := cell_of_row w8 _ 9 _ _ _ HO8.out
        go_upto_region 16 with fail
        go_cut [17, 18] (fun x y wx => (∃ r : ByteArray, (r = d ∨ r = tt) ∧ x = .string r ∧ y = .bool true) ∧ Below w8.heap.size w8 wx)
        case first =>
          go_region_held3 (fun w' => w'.cell? ⟨P, 0, none⟩ = some (.string d) ∧ w'.cell? ⟨w.heap.size, 6, none⟩ = some (.int .i64 f0) ∧ w'.cell? ⟨w.heap.size, 7, none⟩ = some (.int .i64 f1) ∧ w'.cell? ⟨w.heap.size, 8, none⟩ = some (.string k1) ∧ w'.cell? ⟨w.heap.size, 9, none⟩ = some (.string k2)) (first | (simp [p0, o6, o7, o8, o9]; done) | (simp [g0, gg6, gg7, gg8, gg9]; done)) (first | (go_at_call 29; go_must (with_reducible refine (c6 _).mono ?_); rintro e w9 ⟨⟨r, hr, rfl⟩, hb9⟩; have hb9x : Below w8.heap.size w8 w9 := ⟨hb9.os, hb9.tape, hb9.output, hb9.size, hb9.block⟩; have hOx := (hb9x.block w.heap.size (by omega)).trans HO8.out; have g0 : w9.cell? ⟨P, 0, none⟩ = some (.string d) := cell_of_row w9 _ 0 _ _ _ ((hb9x.block P (by omega)).trans HP8.out); have gg6 : w9.cell? ⟨w.heap.size, 6, none⟩ = some (.int .i64 f0) := cell_of_row w9 _ 6 _ _ _ hOx; have gg7 : w9.cell? ⟨w.heap.size, 7, none⟩ = some (.int .i64 f1) := cell_of_row w9 _ 7 _ _ _ hOx; have gg8 : w9.cell? ⟨w.heap.size, 8, none⟩ = some (.string k1) := cell_of_row w9 _ 8 _ _ _ hOx; have gg9 : w9.cell? ⟨w.heap.size, 9, none⟩ = some (.string k2) := cell_of_row w9 _ 9 _ _ _ hOx; clear hOx))
          all_goals (go_wp2_with fail)
          all_goals go_meet
          all_goals exact ⟨⟨r, hr, rfl, rfl⟩, ⟨hb9x.os, hb9x.tape, hb9x.output, hb9x.size, hb9x.block⟩⟩
        case rest =>
          obtain ⟨⟨r, hr, rfl, rfl⟩, hb9⟩ := hcut; have hsz9 := hb9.size
          have hP9 := (hb9.block P (by omega)).trans HP8.out
          have hB9 := (hb9.block B hB8).trans HB8.out; have HP9 := hid hP9
          have HN9 : Hid (Only (fun b => b = P) w wc) := Only.of_below (below_tr HW8.out hb9)
          have HI9 := hid (HI8.out.next hb9); clear p0 p1 p2 p3 p4 p5 p6 p7 p8 p9 p10 p11 l0 l1 l2 l3 l4 l5 l6 o5 o6 o7 o8 o9 hb9 c6; obtain ⟨b0, b1, b2, b3, b4, b5, b6, b7, b8, b9⟩ := cells10 hB9; have p0 : wc.cell? ⟨P, 0, none⟩ = some (.string d) := cell_of_row wc _ 0 _ _ _ hP9; have p1 : wc.cell? ⟨P, 1, none⟩ = some (.int .i64 s.role) := cell_of_row wc _ 1 _ _ _ hP9; have p2 : wc.cell? ⟨P, 2, none⟩ = some (.int .i64 s.step) := cell_of_row wc _ 2 _ _ _ hP9; have p3 : wc.cell? ⟨P, 3, none⟩ = some (.int .i64 s.sent) := cell_of_row wc _ 3 _ _ _ hP9; have p4 : wc.cell? ⟨P, 4, none⟩ = some (.int .i64 s.got) := cell_of_row wc _ 4 _ _ _ hP9; have p5 : wc.cell? ⟨P, 5, none⟩ = some (.int .i64 s.prev) := cell_of_row wc _ 5 _ _ _ hP9; have p6 : wc.cell? ⟨P, 6, none⟩ = some (.int .i64 s.skip) := cell_of_row wc _ 6 _ _ _ hP9; have p7 : wc.cell? ⟨P, 7, none⟩ = some (.int .i64 s.cap) := cell_of_row wc _ 7 _ _ _ hP9; have p8 : wc.cell? ⟨P, 8, none⟩ = some (.int .i64 s.secret) := cell_of_row wc _ 8 _ _ _ hP9; have p9 : wc.cell? ⟨P, 9, none⟩ = some (.int .i64 pe) := cell_of_row wc _ 9 _ _ _ hP9; have p10 : wc.cell? ⟨P, 10, none⟩ = some (.slice aa s.kept.length cc) := cell_of_row wc _ 10 _ _ _ hP9; have p11 : wc.cell? ⟨P, 11, none⟩ = some (pl) := cell_of_row wc _ 11 _ _ _ hP9
          have fP : ∀ j, wc.frozen? ⟨P, j, none⟩ = false := fun j => frozen_of_row wc _ j _ _ hP9
          clear hP9 hB9 HP8 HQ8 HB8 HR8 HO8 HW8 HL8 HI8
          rcases hr with rfl | rfl
          · go_wp2; go_ret
            refine ⟨rfl, .inl ?_, onlyR_set HN9.out⟩
            exact heap_setCell_same _ _ _ _ _ _ HP9.out
          · go_upto_region 21 with fail
            obtain ⟨wA, hwA, hXA, hNA⟩ := storeP HP9.out (.int .i64 s2.role) (.int .i64 s2.step) (.int .i64 s2.sent) (.int .i64 s2.got) (.int .i64 s2.prev) (.int .i64 s2.skip) (.int .i64 s2.cap) (.int .i64 s2.secret) (.int .i64 pe2) (.slice yv s2.kept.length yc); rw [← hwA]; clear hwA b0 b1 b2 b3 b4 b5 b6 b7 b8 b9 p0 p1 p2 p3 p4 p5 p6 p7 p8 p9 p10 p11 fP; have HXA := hid hXA
            have HNA : Hid (Only (fun b => b = P) w wA) := HN9.out.trans hNA
            have HIA := hid (HI9.out.only hNA (fun _ k hk q => (HFB.out.2 k hk).1 q))
            have p0 : wA.cell? ⟨P, 0, none⟩ = some (.string d) := cell_of_row wA _ 0 _ _ _ hXA
            have fP : ∀ j, wA.frozen? ⟨P, j, none⟩ = false := fun j => frozen_of_row wA _ j _ _ hXA
            clear hXA hNA; go_wp2; go_ret
            refine ⟨rfl, .inr ⟨yv, yc, heap_setCell_same _ _ _ _ _ _ HXA.out, HIA.out.only (S := fun k => k = P) (onlyR_set (Only.refl _ _)) (fun _ k hk q => (HFB.out.2 k hk).1 q), HFB.out.1⟩, onlyR_set HNA.out⟩
end Go.Proofs.Ytabpkohcimiceab
