import Derived.Test.YtabpkohcimiceabBookY
import Derived.Test.YtabpkohcimiceabPartyX
import Derived.Test.YtabpkohcimiceabKeepE
namespace Go.Proofs.Ytabpkohcimiceab
set_option maxRecDepth 100000
set_option maxHeartbeats 1000000
open Go.RowKit
set_option linter.unusedVariables false
set_option linter.unusedSimpArgs false
theorem send_mayW {d : List UInt8} {k : Nat} (h : GoodD d k) (t : List UInt8) (ht : t.length ≤ 40) : sendErr d t = mayW (heldS d) := by
  rw [sendErr, if_pos (good_open h), if_neg (by omega), mayW]
theorem mayW_ok {s : StM} (h : mayW s = 0) : s.step ≠ 0 ∧ s.sent < 50 ∧ s.step < 30 := by
  rw [mayW] at h
  by_cases h0 : s.step = 0
  · rw [if_pos h0] at h; simp at h
  · rw [if_neg h0] at h
    by_cases h1 : 50 ≤ s.sent ∨ 30 ≤ s.step
    · rw [if_pos h1] at h; simp at h
    · exact ⟨h0, by omega, by omega⟩
theorem write_err (P base : Nat) (d : ByteArray) (s : StM) (pe : Int) (aa : Option Addr) (nn cc : Nat) (xv : Option Addr) (xn xc : Nat) (L : List LtM) (kd who pn dr f0 f1 : Int) (tx k1 k2 : ByteArray) (k : Nat) (w : World) (hP : w.heap[P]? = some (.cells #[.string d, .int .i64 s.role, .int .i64 s.step, .int .i64 s.sent, .int .i64 s.got, .int .i64 s.prev, .int .i64 s.skip, .int .i64 s.cap, .int .i64 s.secret, .int .i64 pe, .slice aa nn cc, .slice xv xn xc] 41)) (hrow : w.ownsRow base 63 7 (.slice xv xn xc) L.length (ltsC L)) (hPb : P < base) (hbase : base ≤ w.heap.size) (hL : L.length ≤ 2000) (ht : tx.size ≤ maxLen) (hg : GoodD d.data.toList k) (hs : heldS d.data.toList = s) (cut : Bool) (hm : mayW s ≠ 0) :
    Calls Try.prog 17 #[.pointer (some ⟨P, 0, none⟩), .agg #[.int .i64 kd, .int .i64 who, .int .i64 pn, .int .i64 dr, .string tx, .bool cut, .int .i64 f0, .int .i64 f1, .string k1, .string k2]] w fun e w' => e = .returned (.bool true) ∧ Below w.heap.size w w' := by
  have hds : d.size = k * 32 := by rw [← len_list]; exact hg.len
  have hk2 := hg.k2; have hk1 := hg.k1
  have hdm : d.size ≤ maxLen := by unfold maxLen; omega
  have l40 : (tx.data.toList.take 40).length ≤ 40 := by rw [List.length_take]; omega
  have hsm := send_mayW hg (tx.data.toList.take 40) l40
  rw [hs] at hsm
  have c1 := fun w => cutTo_any tx 40 w (by omega) (by omega) ht
  rw [show (40 : Int).toNat = 40 from rfl] at c1
  have c2 := fun w => pawlSend_any d (str (tx.data.toList.take 40)) w hdm
  rw [str_toList, hsm] at c2
  have c3 := fun w => mayWrite_any s pe aa nn cc w
  have hPlt : P < w.heap.size := by omega
  have e1 : sendLet d.data.toList (tx.data.toList.take 40) = [] := by rw [sendLet, if_neg (by rw [hsm]; exact hm)]
  have e2 : sendPlan d.data.toList (tx.data.toList.take 40) = [] := by rw [sendPlan, if_neg (by rw [hsm]; exact hm)]
  rw [e1, e2] at c2
  have c2' : ∀ w, Calls Try.prog 24 #[.string d, .string (str (tx.data.toList.take 40))] w fun e w' => e = .returned (.tuple #[.string ⟨#[]⟩, .string ⟨#[]⟩, .int .i64 (mayW s)]) ∧ Below w.heap.size w w' := c2
  have hE : (mayW s == 0) = false := by rw [beq_eq_false_iff_ne]; exact hm
  clear c2; have c2 := c2'; clear c2' e1 e2 hsm hm hs hg
  generalize mayW s = E at *
  generalize str (tx.data.toList.take 40) = txx at *
  go_enter Try.func17, Try.ntmps17
  go_upto_region 1 with fail
  obtain ⟨ob, eob⟩ : ∃ ob, ob = Obj.cells #[.int .i64 kd, .int .i64 who, .int .i64 pn, .int .i64 dr, .string tx, .bool cut, .int .i64 f0, .int .i64 f1, .string k1, .string k2] 34 := ⟨_, rfl⟩
  rw [← eob]; have hO := heap_alloc_new w ob; have hWa : Below w.heap.size w (w.alloc ob) := (Below.refl _ _).alloc (Nat.le_refl _) _
  have hlt : w.heap.size < (w.alloc ob).heap.size := by simp
  generalize (w.alloc ob) = wa at hO hWa hlt ⊢
  subst eob; have HPa := hid ((hWa.block P hPlt).trans hP); have HRa := hid (ownsRow_below hrow hWa); have HO := hid hO; have HWa := hid hWa; have o4 : wa.cell? ⟨w.heap.size, 4, none⟩ = some (.string tx) := cell_of_row wa _ 4 _ _ _ hO; have p0 : wa.cell? ⟨P, 0, none⟩ = some (.string d) := cell_of_row wa _ 0 _ _ _ HPa.out; clear hO hWa hP hrow
  go_upto_region 3 with (first | (go_at_call 23; go_must (with_reducible refine (c1 _).mono ?_); rintro e w' ⟨rfl, hw⟩; rw [hw]; clear hw w') | (go_at_call 24; (with_reducible refine (c2 _).mono ?_); rintro e w2 ⟨rfl, hb2⟩))
  have hsz2 := hb2.size
  have HP2 := hid ((hb2.block P (by omega)).trans HPa.out)
  have HR2 := hid (ownsRow_below HRa.out hb2); have HO2 := hid ((hb2.block w.heap.size hlt).trans HO.out); have HW2 := hid (below_tr HWa.out hb2); clear o4 p0 hb2 HPa HRa HO HWa c1 c2; have p0 : w2.cell? ⟨P, 0, none⟩ = some (.string d) := cell_of_row w2 _ 0 _ _ _ HP2.out; have p1 : w2.cell? ⟨P, 1, none⟩ = some (.int .i64 s.role) := cell_of_row w2 _ 1 _ _ _ HP2.out; have p2 : w2.cell? ⟨P, 2, none⟩ = some (.int .i64 s.step) := cell_of_row w2 _ 2 _ _ _ HP2.out; have p3 : w2.cell? ⟨P, 3, none⟩ = some (.int .i64 s.sent) := cell_of_row w2 _ 3 _ _ _ HP2.out; have p4 : w2.cell? ⟨P, 4, none⟩ = some (.int .i64 s.got) := cell_of_row w2 _ 4 _ _ _ HP2.out; have p5 : w2.cell? ⟨P, 5, none⟩ = some (.int .i64 s.prev) := cell_of_row w2 _ 5 _ _ _ HP2.out; have p6 : w2.cell? ⟨P, 6, none⟩ = some (.int .i64 s.skip) := cell_of_row w2 _ 6 _ _ _ HP2.out; have p7 : w2.cell? ⟨P, 7, none⟩ = some (.int .i64 s.cap) := cell_of_row w2 _ 7 _ _ _ HP2.out; have p8 : w2.cell? ⟨P, 8, none⟩ = some (.int .i64 s.secret) := cell_of_row w2 _ 8 _ _ _ HP2.out; have p9 : w2.cell? ⟨P, 9, none⟩ = some (.int .i64 pe) := cell_of_row w2 _ 9 _ _ _ HP2.out; have p10 : w2.cell? ⟨P, 10, none⟩ = some (.slice aa nn cc) := cell_of_row w2 _ 10 _ _ _ HP2.out; have p11 : w2.cell? ⟨P, 11, none⟩ = some (.slice xv xn xc) := cell_of_row w2 _ 11 _ _ _ HP2.out
  go_wp2_with (first | (go_at_call 28; (with_reducible refine (c3 _).mono ?_); rintro e w3 ⟨rfl, hb3⟩))
  go_ret; exact ⟨rfl, below_tr HW2.out hb3⟩
theorem write_cut (P base : Nat) (d : ByteArray) (s : StM) (pe : Int) (aa : Option Addr) (nn cc : Nat) (xv : Option Addr) (xn xc : Nat) (L : List LtM) (kd who pn dr f0 f1 : Int) (tx k1 k2 : ByteArray) (k : Nat) (w : World) (hP : w.heap[P]? = some (.cells #[.string d, .int .i64 s.role, .int .i64 s.step, .int .i64 s.sent, .int .i64 s.got, .int .i64 s.prev, .int .i64 s.skip, .int .i64 s.cap, .int .i64 s.secret, .int .i64 pe, .slice aa nn cc, .slice xv xn xc] 41)) (hrow : w.ownsRow base 63 7 (.slice xv xn xc) L.length (ltsC L)) (hPb : P < base) (hbase : base ≤ w.heap.size) (hL : L.length ≤ 2000) (ht : tx.size ≤ maxLen) (hg : GoodD d.data.toList k) (hs : heldS d.data.toList = s) (hm : mayW s = 0) (hf0 : (-9223372036854775808 ≤ f0 ∧ f0 ≤ 9223372036854775807)) (hf1 : (-9223372036854775808 ≤ f1 ∧ f1 ≤ 9223372036854775807)) (hk1s : k1.size ≤ maxLen) (hk2s : k2.size ≤ maxLen) :
    Calls Try.prog 17 #[.pointer (some ⟨P, 0, none⟩), .agg #[.int .i64 kd, .int .i64 who, .int .i64 pn, .int .i64 dr, .string tx, .bool true, .int .i64 f0, .int .i64 f1, .string k1, .string k2]] w fun e w' => e = .returned (.bool true) ∧ (w'.heap[P]? = some (.cells #[.string d, .int .i64 s.role, .int .i64 s.step, .int .i64 s.sent, .int .i64 s.got, .int .i64 s.prev, .int .i64 s.skip, .int .i64 s.cap, .int .i64 s.secret, .int .i64 pe, .slice aa nn cc, .slice xv xn xc] 41) ∨ w'.heap[P]? = some (.cells #[.string (str (sendTo d.data.toList (tx.data.toList.take 40))), .int .i64 s.role, .int .i64 s.step, .int .i64 ((s.sent : Int) + 1), .int .i64 s.got, .int .i64 s.prev, .int .i64 s.skip, .int .i64 s.cap, .int .i64 s.secret, .int .i64 pe, .slice aa nn cc, .slice xv xn xc] 41)) ∧ Only (fun b => b = P) w w' := by
  have hds : d.size = k * 32 := by rw [← len_list]; exact hg.len
  have hk2 := hg.k2; have hk1 := hg.k1
  have hdm : d.size ≤ maxLen := by unfold maxLen; omega
  have l40 : (tx.data.toList.take 40).length ≤ 40 := by rw [List.length_take]; omega
  have hsm := send_mayW hg (tx.data.toList.take 40) l40
  rw [hs] at hsm
  have c1 := fun w => cutTo_any tx 40 w (by omega) (by omega) ht
  rw [show (40 : Int).toNat = 40 from rfl] at c1
  have c2 := fun w => pawlSend_any d (str (tx.data.toList.take 40)) w hdm
  rw [str_toList, hsm] at c2
  have c3 := fun w => mayWrite_any s pe aa nn cc w
  have hPlt : P < w.heap.size := by omega
  rw [hm] at c2 c3 hsm
  obtain ⟨k', hD, hk', hk1', hk2', hto, hpl, r1, r2, r3⟩ := send_safe _ _ hsm; obtain ⟨q1, q2⟩ := recsF_ok _ _ _ _ r1
  have hkk : k' = k := by rw [len_list] at hk'; omega
  subst hkk
  have c4 := fun w => carried_any d (rplR d.data.toList (sendTo d.data.toList (tx.data.toList.take 40)) (heldS d.data.toList).cap (liveL d.data.toList)) k' w hds hk2 q2 q1
  rw [← hpl, r2 []] at c4
  have hlet : sendLet d.data.toList (tx.data.toList.take 40) = letL (heldS d.data.toList) (tx.data.toList.take 40) := by rw [sendLet, if_pos hsm]
  rw [hlet, hs] at c2
  have hlen : (letL s (tx.data.toList.take 40)).length = 15 + (tx.data.toList.take 40).length := by rw [letL, List.length_append, headB_length, sealL_length]; omega
  have hlI : (((str (letL s (tx.data.toList.take 40))).size : Int) == ((str (tx.data.toList.take 40)).size : Int) + 7 + 8) = true := by
    rw [beq_iff_eq, str_size, str_size, hlen]; omega
  have hlI2 : (((str (letL s (tx.data.toList.take 40))).size : Int) != ((str (tx.data.toList.take 40)).size : Int) + 7 + 8) = false := by rw [bne, hlI]; rfl
  have hts : (str (tx.data.toList.take 40)).size ≤ 40 := by rw [str_size]; exact l40
  have hw7 : IntKind.i64.wrap (((str (tx.data.toList.take 40)).size : Int) + 7) = ((str (tx.data.toList.take 40)).size : Int) + 7 := wrap_i64 _ (by omega) (by omega)
  have hw8 : IntKind.i64.wrap (((str (tx.data.toList.take 40)).size : Int) + 7 + 8) = ((str (tx.data.toList.take 40)).size : Int) + 7 + 8 := wrap_i64 _ (by omega) (by omega)
  have hne := send_other hg _ hsm
  have hbq : ((str (sendTo d.data.toList (tx.data.toList.take 40))).toList == d.toList) = false := by
    rw [ByteArray.toList_eq, ByteArray.toList_eq, str_toList, beq_eq_false_iff_ne]; exact hne
  have hbq2 : (d.toList == (str (sendTo d.data.toList (tx.data.toList.take 40))).toList) = false := by
    rw [ByteArray.toList_eq, ByteArray.toList_eq, str_toList, beq_eq_false_iff_ne]; exact fun e => hne e.symm
  have hs50 : s.sent ≤ 1000 := by have := (mayW_ok hm).2.1; omega
  have c5 := fun w => wrote_any s pe aa nn cc w hs50
  have c6 : ∀ w, Calls Try.prog 29 #[.string d, .string (str (sendPlan d.data.toList (tx.data.toList.take 40))), .agg #[.int .i64 f0, .int .i64 f1, .string k1, .string k2]] w fun e w' => (∃ r : ByteArray, (r = d ∨ r = str (sendTo d.data.toList (tx.data.toList.take 40))) ∧ e = .returned (.tuple #[.string r, .bool true])) ∧ Below w.heap.size w w' := by
    intro w
    rw [hpl]
    refine (broken_any d _ k' f0 f1 k1 k2 (fun r => r = d.data.toList ∨ r = sendTo d.data.toList (tx.data.toList.take 40)) w hds hk1 hk2 q2 q1 (fun m kq hm => ?_) hf0.1 hf0.2 hf1.1 hf1.2 hk1s hk2s).mono ?_
    · rcases r3 m kq hm with q | q
      · exact ⟨_, q, .inl rfl⟩
      · exact ⟨_, q, .inr rfl⟩
    · rintro e w' ⟨⟨r, hr, _, he⟩, hb⟩
      refine ⟨⟨str r, ?_, he⟩, hb⟩
      rcases hr with hr | hr
      · left; rw [hr]; exact str_of d
      · right; rw [hr]
  clear r3; clear hlet hto hsm hlen hne hD hk' hk1' hk2' hm hs hg hpl r1 r2 q1 q2 l40
  generalize str (letL s (tx.data.toList.take 40)) = lt at *
  generalize str (sendTo d.data.toList (tx.data.toList.take 40)) = tt at *
  generalize str (sendPlan d.data.toList (tx.data.toList.take 40)) = pl at *
  generalize str (tx.data.toList.take 40) = txx at *
  go_enter Try.func17, Try.ntmps17
  go_upto_region 1 with fail
  obtain ⟨ob, eob⟩ : ∃ ob, ob = Obj.cells #[.int .i64 kd, .int .i64 who, .int .i64 pn, .int .i64 dr, .string tx, .bool true, .int .i64 f0, .int .i64 f1, .string k1, .string k2] 34 := ⟨_, rfl⟩
  rw [← eob]; have hO := heap_alloc_new w ob; have hWa : Below w.heap.size w (w.alloc ob) := (Below.refl _ _).alloc (Nat.le_refl _) _
  have hlt : w.heap.size < (w.alloc ob).heap.size := by simp
  generalize (w.alloc ob) = wa at hO hWa hlt ⊢
  subst eob; have HPa := hid ((hWa.block P hPlt).trans hP); have HRa := hid (ownsRow_below hrow hWa); have HO := hid hO; have HWa := hid hWa; have o4 : wa.cell? ⟨w.heap.size, 4, none⟩ = some (.string tx) := cell_of_row wa _ 4 _ _ _ hO; have p0 : wa.cell? ⟨P, 0, none⟩ = some (.string d) := cell_of_row wa _ 0 _ _ _ HPa.out; clear hO hWa hP hrow
  go_upto_region 3 with (first | (go_at_call 23; go_must (with_reducible refine (c1 _).mono ?_); rintro e w' ⟨rfl, hw⟩; rw [hw]; clear hw w') | (go_at_call 24; (with_reducible refine (c2 _).mono ?_); rintro e w2 ⟨rfl, hb2⟩))
  have hsz2 := hb2.size
  have HP2 := hid ((hb2.block P (by omega)).trans HPa.out)
  have HR2 := hid (ownsRow_below HRa.out hb2); have HO2 := hid ((hb2.block w.heap.size hlt).trans HO.out); have HW2 := hid (below_tr HWa.out hb2); clear o4 p0 hb2 HPa HRa HO HWa c1 c2; have p0 : w2.cell? ⟨P, 0, none⟩ = some (.string d) := cell_of_row w2 _ 0 _ _ _ HP2.out; have p1 : w2.cell? ⟨P, 1, none⟩ = some (.int .i64 s.role) := cell_of_row w2 _ 1 _ _ _ HP2.out; have p2 : w2.cell? ⟨P, 2, none⟩ = some (.int .i64 s.step) := cell_of_row w2 _ 2 _ _ _ HP2.out; have p3 : w2.cell? ⟨P, 3, none⟩ = some (.int .i64 s.sent) := cell_of_row w2 _ 3 _ _ _ HP2.out; have p4 : w2.cell? ⟨P, 4, none⟩ = some (.int .i64 s.got) := cell_of_row w2 _ 4 _ _ _ HP2.out; have p5 : w2.cell? ⟨P, 5, none⟩ = some (.int .i64 s.prev) := cell_of_row w2 _ 5 _ _ _ HP2.out; have p6 : w2.cell? ⟨P, 6, none⟩ = some (.int .i64 s.skip) := cell_of_row w2 _ 6 _ _ _ HP2.out; have p7 : w2.cell? ⟨P, 7, none⟩ = some (.int .i64 s.cap) := cell_of_row w2 _ 7 _ _ _ HP2.out; have p8 : w2.cell? ⟨P, 8, none⟩ = some (.int .i64 s.secret) := cell_of_row w2 _ 8 _ _ _ HP2.out; have p9 : w2.cell? ⟨P, 9, none⟩ = some (.int .i64 pe) := cell_of_row w2 _ 9 _ _ _ HP2.out; have p10 : w2.cell? ⟨P, 10, none⟩ = some (.slice aa nn cc) := cell_of_row w2 _ 10 _ _ _ HP2.out; have p11 : w2.cell? ⟨P, 11, none⟩ = some (.slice xv xn xc) := cell_of_row w2 _ 11 _ _ _ HP2.out
  go_upto_region 8 with (first | (go_at_call 28; (with_reducible refine (c3 _).mono ?_); rintro e w3 ⟨rfl, hb3⟩))
  have hsz3 := hb3.size
  have HP3 := hid ((hb3.block P (by omega)).trans HP2.out)
  have HR3 := hid (ownsRow_below HR2.out hb3)
  have HO3 := hid ((hb3.block w.heap.size (by omega)).trans HO2.out)
  have HW3 := hid (below_tr HW2.out hb3); clear p0 p1 p2 p3 p4 p5 p6 p7 p8 p9 p10 p11 hb3 HP2 HR2 HO2 HW2 c3; have p0 : w3.cell? ⟨P, 0, none⟩ = some (.string d) := cell_of_row w3 _ 0 _ _ _ HP3.out
  go_upto_region 9 with (first | (go_at_call 25; (with_reducible refine (c4 _).mono ?_); rintro e w4 ⟨rfl, hb4⟩))
  have hsz4 := hb4.size
  have HP4 := hid ((hb4.block P (by omega)).trans HP3.out)
  have HR4 := hid (ownsRow_below HR3.out hb4)
  have HO4 := hid ((hb4.block w.heap.size (by omega)).trans HO3.out)
  have HW4 := hid (below_tr HW3.out hb4); clear p0 hb4 HP3 HR3 HO3 HW3 c4; have p0 : w4.cell? ⟨P, 0, none⟩ = some (.string d) := cell_of_row w4 _ 0 _ _ _ HP4.out; have p1 : w4.cell? ⟨P, 1, none⟩ = some (.int .i64 s.role) := cell_of_row w4 _ 1 _ _ _ HP4.out; have p2 : w4.cell? ⟨P, 2, none⟩ = some (.int .i64 s.step) := cell_of_row w4 _ 2 _ _ _ HP4.out; have p3 : w4.cell? ⟨P, 3, none⟩ = some (.int .i64 s.sent) := cell_of_row w4 _ 3 _ _ _ HP4.out; have p4 : w4.cell? ⟨P, 4, none⟩ = some (.int .i64 s.got) := cell_of_row w4 _ 4 _ _ _ HP4.out; have p5 : w4.cell? ⟨P, 5, none⟩ = some (.int .i64 s.prev) := cell_of_row w4 _ 5 _ _ _ HP4.out; have p6 : w4.cell? ⟨P, 6, none⟩ = some (.int .i64 s.skip) := cell_of_row w4 _ 6 _ _ _ HP4.out; have p7 : w4.cell? ⟨P, 7, none⟩ = some (.int .i64 s.cap) := cell_of_row w4 _ 7 _ _ _ HP4.out; have p8 : w4.cell? ⟨P, 8, none⟩ = some (.int .i64 s.secret) := cell_of_row w4 _ 8 _ _ _ HP4.out; have p9 : w4.cell? ⟨P, 9, none⟩ = some (.int .i64 pe) := cell_of_row w4 _ 9 _ _ _ HP4.out; have p10 : w4.cell? ⟨P, 10, none⟩ = some (.slice aa nn cc) := cell_of_row w4 _ 10 _ _ _ HP4.out; have p11 : w4.cell? ⟨P, 11, none⟩ = some (.slice xv xn xc) := cell_of_row w4 _ 11 _ _ _ HP4.out; have o5 : w4.cell? ⟨w.heap.size, 5, none⟩ = some (.bool true) := cell_of_row w4 _ 5 _ _ _ HO4.out; have o6 : w4.cell? ⟨w.heap.size, 6, none⟩ = some (.int .i64 f0) := cell_of_row w4 _ 6 _ _ _ HO4.out; have o7 : w4.cell? ⟨w.heap.size, 7, none⟩ = some (.int .i64 f1) := cell_of_row w4 _ 7 _ _ _ HO4.out; have o8 : w4.cell? ⟨w.heap.size, 8, none⟩ = some (.string k1) := cell_of_row w4 _ 8 _ _ _ HO4.out; have o9 : w4.cell? ⟨w.heap.size, 9, none⟩ = some (.string k2) := cell_of_row w4 _ 9 _ _ _ HO4.out
  go_upto_region 12 with fail
  go_cut [12, 13] (fun x y wx => (∃ r : ByteArray, (r = d ∨ r = tt) ∧ x = .string r ∧ y = .bool true) ∧ Below w4.heap.size w4 wx)
  case first =>
    go_region_held3 (fun w' => w'.cell? ⟨P, 0, none⟩ = some (.string d) ∧ w'.cell? ⟨w.heap.size, 6, none⟩ = some (.int .i64 f0) ∧ w'.cell? ⟨w.heap.size, 7, none⟩ = some (.int .i64 f1) ∧ w'.cell? ⟨w.heap.size, 8, none⟩ = some (.string k1) ∧ w'.cell? ⟨w.heap.size, 9, none⟩ = some (.string k2)) (first | (simp [p0, o6, o7, o8, o9]; done) | (simp [g0, g6, g7, g8, g9]; done)) (first | (go_at_call 29; go_must (with_reducible refine (c6 _).mono ?_); rintro e w5 ⟨⟨r, hr, rfl⟩, hb5⟩; have hb5x : Below w4.heap.size w4 w5 := ⟨hb5.os, hb5.tape, hb5.output, hb5.size, hb5.block⟩; have hOx := (hb5x.block w.heap.size (by omega)).trans HO4.out; have g0 : w5.cell? ⟨P, 0, none⟩ = some (.string d) := cell_of_row w5 _ 0 _ _ _ ((hb5x.block P (by omega)).trans HP4.out); have g6 : w5.cell? ⟨w.heap.size, 6, none⟩ = some (.int .i64 f0) := cell_of_row w5 _ 6 _ _ _ hOx; have g7 : w5.cell? ⟨w.heap.size, 7, none⟩ = some (.int .i64 f1) := cell_of_row w5 _ 7 _ _ _ hOx; have g8 : w5.cell? ⟨w.heap.size, 8, none⟩ = some (.string k1) := cell_of_row w5 _ 8 _ _ _ hOx; have g9 : w5.cell? ⟨w.heap.size, 9, none⟩ = some (.string k2) := cell_of_row w5 _ 9 _ _ _ hOx; clear hOx))
    all_goals (go_wp2_with fail)
    all_goals go_meet
    all_goals exact ⟨⟨r, hr, rfl, rfl⟩, ⟨hb5x.os, hb5x.tape, hb5x.output, hb5x.size, hb5x.block⟩⟩
  case rest =>
    obtain ⟨⟨r, hr, rfl, rfl⟩, hb5⟩ := hcut; have hsz5 := hb5.size
    have hP5 := (hb5.block P (by omega)).trans HP4.out
    have HP5 := hid hP5
    have HN5 : Hid (Only (fun b => b = P) w wc) := Only.of_below (below_tr HW4.out hb5)
    clear p0 p1 p2 p3 p4 p5 p6 p7 p8 p9 p10 p11 o5 o6 o7 o8 o9 hb5 HP4 HR4 HW4 HO4 c6; have p0 : wc.cell? ⟨P, 0, none⟩ = some (.string d) := cell_of_row wc _ 0 _ _ _ hP5; have p1 : wc.cell? ⟨P, 1, none⟩ = some (.int .i64 s.role) := cell_of_row wc _ 1 _ _ _ hP5; have p2 : wc.cell? ⟨P, 2, none⟩ = some (.int .i64 s.step) := cell_of_row wc _ 2 _ _ _ hP5; have p3 : wc.cell? ⟨P, 3, none⟩ = some (.int .i64 s.sent) := cell_of_row wc _ 3 _ _ _ hP5; have p4 : wc.cell? ⟨P, 4, none⟩ = some (.int .i64 s.got) := cell_of_row wc _ 4 _ _ _ hP5; have p5 : wc.cell? ⟨P, 5, none⟩ = some (.int .i64 s.prev) := cell_of_row wc _ 5 _ _ _ hP5; have p6 : wc.cell? ⟨P, 6, none⟩ = some (.int .i64 s.skip) := cell_of_row wc _ 6 _ _ _ hP5; have p7 : wc.cell? ⟨P, 7, none⟩ = some (.int .i64 s.cap) := cell_of_row wc _ 7 _ _ _ hP5; have p8 : wc.cell? ⟨P, 8, none⟩ = some (.int .i64 s.secret) := cell_of_row wc _ 8 _ _ _ hP5; have p9 : wc.cell? ⟨P, 9, none⟩ = some (.int .i64 pe) := cell_of_row wc _ 9 _ _ _ hP5; have p10 : wc.cell? ⟨P, 10, none⟩ = some (.slice aa nn cc) := cell_of_row wc _ 10 _ _ _ hP5; have p11 : wc.cell? ⟨P, 11, none⟩ = some (.slice xv xn xc) := cell_of_row wc _ 11 _ _ _ hP5
    have fP : ∀ j, wc.frozen? ⟨P, j, none⟩ = false := fun j => frozen_of_row wc _ j _ _ hP5
    clear hP5
    rcases hr with rfl | rfl
    · go_wp2; go_ret
      refine ⟨rfl, .inl ?_, onlyR_set HN5.out⟩
      exact heap_setCell_same _ _ _ _ _ _ HP5.out
    · have hPw : P < wc.heap.size := by omega
      go_upto_region 17 with (first | (go_at_call 30; (with_reducible refine (c5 _).mono ?_); rintro e w9 ⟨rfl, hb9⟩; have hPx := (hb9.block P hPw).trans HP5.out; have u0 : w9.cell? ⟨P, 0, none⟩ = some (.string d) := cell_of_row w9 _ 0 _ _ _ hPx; have u1 : w9.cell? ⟨P, 1, none⟩ = some (.int .i64 s.role) := cell_of_row w9 _ 1 _ _ _ hPx; have u2 : w9.cell? ⟨P, 2, none⟩ = some (.int .i64 s.step) := cell_of_row w9 _ 2 _ _ _ hPx; have u3 : w9.cell? ⟨P, 3, none⟩ = some (.int .i64 s.sent) := cell_of_row w9 _ 3 _ _ _ hPx; have u4 : w9.cell? ⟨P, 4, none⟩ = some (.int .i64 s.got) := cell_of_row w9 _ 4 _ _ _ hPx; have u5 : w9.cell? ⟨P, 5, none⟩ = some (.int .i64 s.prev) := cell_of_row w9 _ 5 _ _ _ hPx; have u6 : w9.cell? ⟨P, 6, none⟩ = some (.int .i64 s.skip) := cell_of_row w9 _ 6 _ _ _ hPx; have u7 : w9.cell? ⟨P, 7, none⟩ = some (.int .i64 s.cap) := cell_of_row w9 _ 7 _ _ _ hPx; have u8 : w9.cell? ⟨P, 8, none⟩ = some (.int .i64 s.secret) := cell_of_row w9 _ 8 _ _ _ hPx; have u9 : w9.cell? ⟨P, 9, none⟩ = some (.int .i64 pe) := cell_of_row w9 _ 9 _ _ _ hPx; have u10 : w9.cell? ⟨P, 10, none⟩ = some (.slice aa nn cc) := cell_of_row w9 _ 10 _ _ _ hPx; have u11 : w9.cell? ⟨P, 11, none⟩ = some (.slice xv xn xc) := cell_of_row w9 _ 11 _ _ _ hPx; have fP9 : ∀ j, w9.frozen? ⟨P, j, none⟩ = false := fun j => frozen_of_row w9 _ j _ _ hPx; clear hPx))
      have hP9 := (hb9.block P hPw).trans HP5.out
      have HN9 : Hid (Only (fun b => b = P) w w9) := HN5.out.then hb9
      obtain ⟨wA, hwA, hXA, hNA⟩ := storeP hP9 (.int .i64 s.role) (.int .i64 s.step) (.int .i64 ((s.sent : Int) + 1)) (.int .i64 s.got) (.int .i64 s.prev) (.int .i64 s.skip) (.int .i64 s.cap) (.int .i64 s.secret) (.int .i64 pe) (.slice aa nn cc); rw [← hwA]; clear hwA hP9 u0 u1 u2 u3 u4 u5 u6 u7 u8 u9 u10 u11 fP9 p0 p1 p2 p3 p4 p5 p6 p7 p8 p9 p10 p11 fP hb9 c5
      have HNA : Hid (Only (fun b => b = P) w wA) := HN9.out.trans hNA
      have HXA := hid hXA; have p0 : wA.cell? ⟨P, 0, none⟩ = some (.string d) := cell_of_row wA _ 0 _ _ _ hXA
      have fP : ∀ j, wA.frozen? ⟨P, j, none⟩ = false := fun j => frozen_of_row wA _ j _ _ hXA
      clear hXA hNA; go_wp2; go_ret
      refine ⟨rfl, .inr ?_, onlyR_set HNA.out⟩
      exact heap_setCell_same _ _ _ _ _ _ HXA.out
theorem write_plain (P base : Nat) (d : ByteArray) (s : StM) (pe : Int) (aa : Option Addr) (nn cc : Nat) (xv : Option Addr) (xn xc : Nat) (L : List LtM) (kd who pn dr f0 f1 : Int) (tx k1 k2 : ByteArray) (k : Nat) (w : World) (hP : w.heap[P]? = some (.cells #[.string d, .int .i64 s.role, .int .i64 s.step, .int .i64 s.sent, .int .i64 s.got, .int .i64 s.prev, .int .i64 s.skip, .int .i64 s.cap, .int .i64 s.secret, .int .i64 pe, .slice aa nn cc, .slice xv xn xc] 41)) (hrow : w.ownsRow base 63 7 (.slice xv xn xc) L.length (ltsC L)) (hPb : P < base) (hbase : base ≤ w.heap.size) (hL : L.length ≤ 2000) (ht : tx.size ≤ maxLen) (hg : GoodD d.data.toList k) (hs : heldS d.data.toList = s) (hm : mayW s = 0) :
    Calls Try.prog 17 #[.pointer (some ⟨P, 0, none⟩), .agg #[.int .i64 kd, .int .i64 who, .int .i64 pn, .int .i64 dr, .string tx, .bool false, .int .i64 f0, .int .i64 f1, .string k1, .string k2]] w fun e w' => e = .returned (.bool true) ∧ ∃ (yv : Option Addr) (yn yc : Nat), w'.heap[P]? = some (.cells #[.string (str (sendTo d.data.toList (tx.data.toList.take 40))), .int .i64 s.role, .int .i64 s.step, .int .i64 ((s.sent : Int) + 1), .int .i64 s.got, .int .i64 s.prev, .int .i64 s.skip, .int .i64 s.cap, .int .i64 s.secret, .int .i64 pe, .slice aa nn cc, .slice yv yn yc] 41) ∧ w'.ownsRow base 63 7 (.slice yv yn yc) (L ++ [newLt s (tx.data.toList.take 40)]).length (ltsC (L ++ [newLt s (tx.data.toList.take 40)])) ∧ (∀ k, (Value.slice yv yn yc).ownBlock = some k → (Value.slice xv xn xc).ownBlock = some k ∨ w.heap.size ≤ k) ∧ Only (fun b => b = P ∨ (Value.slice xv xn xc).ownBlock = some b) w w' := by
  obtain ⟨i0, hi0, hz0, hz1, hz2⟩ := info_parts Try.infoLetter; obtain ⟨xa, xb, hxv⟩ := ltForm hrow
  injection hxv with x1 x2 x3
  subst x2; clear x1 x3 xa xb
  have hds : d.size = k * 32 := by rw [← len_list]; exact hg.len
  have hk2 := hg.k2; have hk1 := hg.k1
  have hdm : d.size ≤ maxLen := by unfold maxLen; omega
  have l40 : (tx.data.toList.take 40).length ≤ 40 := by rw [List.length_take]; omega
  have hsm := send_mayW hg (tx.data.toList.take 40) l40
  rw [hs] at hsm
  have c1 := fun w => cutTo_any tx 40 w (by omega) (by omega) ht
  rw [show (40 : Int).toNat = 40 from rfl] at c1
  have c2 := fun w => pawlSend_any d (str (tx.data.toList.take 40)) w hdm
  rw [str_toList, hsm] at c2
  have c3 := fun w => mayWrite_any s pe aa nn cc w
  have hPlt : P < w.heap.size := by omega
  rw [hm] at c2 c3 hsm
  obtain ⟨k', hD, hk', hk1', hk2', hto, hpl, r1, r2, r3⟩ := send_safe _ _ hsm; obtain ⟨q1, q2⟩ := recsF_ok _ _ _ _ r1
  have hkk : k' = k := by rw [len_list] at hk'; omega
  subst hkk
  have c4 := fun w => carried_any d (rplR d.data.toList (sendTo d.data.toList (tx.data.toList.take 40)) (heldS d.data.toList).cap (liveL d.data.toList)) k' w hds hk2 q2 q1
  rw [← hpl, r2 []] at c4
  have hlet : sendLet d.data.toList (tx.data.toList.take 40) = letL (heldS d.data.toList) (tx.data.toList.take 40) := by rw [sendLet, if_pos hsm]
  rw [hlet, hs] at c2
  have hlen : (letL s (tx.data.toList.take 40)).length = 15 + (tx.data.toList.take 40).length := by rw [letL, List.length_append, headB_length, sealL_length]; omega
  have hlI : (((str (letL s (tx.data.toList.take 40))).size : Int) == ((str (tx.data.toList.take 40)).size : Int) + 7 + 8) = true := by
    rw [beq_iff_eq, str_size, str_size, hlen]; omega
  have hlI2 : (((str (letL s (tx.data.toList.take 40))).size : Int) != ((str (tx.data.toList.take 40)).size : Int) + 7 + 8) = false := by rw [bne, hlI]; rfl
  have hts : (str (tx.data.toList.take 40)).size ≤ 40 := by rw [str_size]; exact l40
  have hw7 : IntKind.i64.wrap (((str (tx.data.toList.take 40)).size : Int) + 7) = ((str (tx.data.toList.take 40)).size : Int) + 7 := wrap_i64 _ (by omega) (by omega)
  have hw8 : IntKind.i64.wrap (((str (tx.data.toList.take 40)).size : Int) + 7 + 8) = ((str (tx.data.toList.take 40)).size : Int) + 7 + 8 := wrap_i64 _ (by omega) (by omega)
  have hne := send_other hg _ hsm
  have hbq : ((str (sendTo d.data.toList (tx.data.toList.take 40))).toList == d.toList) = false := by
    rw [ByteArray.toList_eq, ByteArray.toList_eq, str_toList, beq_eq_false_iff_ne]; exact hne
  have hbq2 : (d.toList == (str (sendTo d.data.toList (tx.data.toList.take 40))).toList) = false := by
    rw [ByteArray.toList_eq, ByteArray.toList_eq, str_toList, beq_eq_false_iff_ne]; exact fun e => hne e.symm
  have hs50 : s.sent ≤ 1000 := by have := (mayW_ok hm).2.1; omega
  have c5 := fun w => wrote_any s pe aa nn cc w hs50
  have HC : Hid (ltC (newLt s (tx.data.toList.take 40)) = [.string (str (letL s (tx.data.toList.take 40))), .string (str (tx.data.toList.take 40)), .int .i64 s.step, .int .i64 s.sent, .int .i64 s.prev, .int .i64 s.secret, .bool false]) := rfl
  have HPU : Hid (ltsC (L ++ [newLt s (tx.data.toList.take 40)]) = ltsC L ++ ltC (newLt s (tx.data.toList.take 40)) ∧ (L ++ [newLt s (tx.data.toList.take 40)]).length = L.length + 1) := ⟨ltsC_push _ _, by rw [List.length_append]; rfl⟩
  generalize ltsC (L ++ [newLt s (tx.data.toList.take 40)]) = newsC at *
  generalize (L ++ [newLt s (tx.data.toList.take 40)]).length = newsN at *
  generalize ltC (newLt s (tx.data.toList.take 40)) = newC at *
  clear r3; clear hlet hto hsm hlen hne hD hk' hk1' hk2' hm hs hg hpl r1 r2 q1 q2 l40
  generalize str (letL s (tx.data.toList.take 40)) = lt at *
  generalize str (sendTo d.data.toList (tx.data.toList.take 40)) = tt at *
  generalize str (sendPlan d.data.toList (tx.data.toList.take 40)) = pl at *
  generalize str (tx.data.toList.take 40) = txx at *
  go_enter Try.func17, Try.ntmps17
  go_upto_region 1 with fail
  obtain ⟨ob, eob⟩ : ∃ ob, ob = Obj.cells #[.int .i64 kd, .int .i64 who, .int .i64 pn, .int .i64 dr, .string tx, .bool false, .int .i64 f0, .int .i64 f1, .string k1, .string k2] 34 := ⟨_, rfl⟩
  rw [← eob]; have hO := heap_alloc_new w ob; have hWa : Below w.heap.size w (w.alloc ob) := (Below.refl _ _).alloc (Nat.le_refl _) _
  have hlt : w.heap.size < (w.alloc ob).heap.size := by simp
  generalize (w.alloc ob) = wa at hO hWa hlt ⊢
  subst eob; have HPa := hid ((hWa.block P hPlt).trans hP); have HRa := hid (ownsRow_below hrow hWa); have HO := hid hO; have HWa := hid hWa; have o4 : wa.cell? ⟨w.heap.size, 4, none⟩ = some (.string tx) := cell_of_row wa _ 4 _ _ _ hO; have p0 : wa.cell? ⟨P, 0, none⟩ = some (.string d) := cell_of_row wa _ 0 _ _ _ HPa.out; clear hO hWa hP hrow
  go_upto_region 3 with (first | (go_at_call 23; go_must (with_reducible refine (c1 _).mono ?_); rintro e w' ⟨rfl, hw⟩; rw [hw]; clear hw w') | (go_at_call 24; (with_reducible refine (c2 _).mono ?_); rintro e w2 ⟨rfl, hb2⟩))
  have hsz2 := hb2.size
  have HP2 := hid ((hb2.block P (by omega)).trans HPa.out)
  have HR2 := hid (ownsRow_below HRa.out hb2); have HO2 := hid ((hb2.block w.heap.size hlt).trans HO.out); have HW2 := hid (below_tr HWa.out hb2); clear o4 p0 hb2 HPa HRa HO HWa c1 c2; have p0 : w2.cell? ⟨P, 0, none⟩ = some (.string d) := cell_of_row w2 _ 0 _ _ _ HP2.out; have p1 : w2.cell? ⟨P, 1, none⟩ = some (.int .i64 s.role) := cell_of_row w2 _ 1 _ _ _ HP2.out; have p2 : w2.cell? ⟨P, 2, none⟩ = some (.int .i64 s.step) := cell_of_row w2 _ 2 _ _ _ HP2.out; have p3 : w2.cell? ⟨P, 3, none⟩ = some (.int .i64 s.sent) := cell_of_row w2 _ 3 _ _ _ HP2.out; have p4 : w2.cell? ⟨P, 4, none⟩ = some (.int .i64 s.got) := cell_of_row w2 _ 4 _ _ _ HP2.out; have p5 : w2.cell? ⟨P, 5, none⟩ = some (.int .i64 s.prev) := cell_of_row w2 _ 5 _ _ _ HP2.out; have p6 : w2.cell? ⟨P, 6, none⟩ = some (.int .i64 s.skip) := cell_of_row w2 _ 6 _ _ _ HP2.out; have p7 : w2.cell? ⟨P, 7, none⟩ = some (.int .i64 s.cap) := cell_of_row w2 _ 7 _ _ _ HP2.out; have p8 : w2.cell? ⟨P, 8, none⟩ = some (.int .i64 s.secret) := cell_of_row w2 _ 8 _ _ _ HP2.out; have p9 : w2.cell? ⟨P, 9, none⟩ = some (.int .i64 pe) := cell_of_row w2 _ 9 _ _ _ HP2.out; have p10 : w2.cell? ⟨P, 10, none⟩ = some (.slice aa nn cc) := cell_of_row w2 _ 10 _ _ _ HP2.out; have p11 : w2.cell? ⟨P, 11, none⟩ = some (.slice xv L.length xc) := cell_of_row w2 _ 11 _ _ _ HP2.out
  go_upto_region 8 with (first | (go_at_call 28; (with_reducible refine (c3 _).mono ?_); rintro e w3 ⟨rfl, hb3⟩))
  have hsz3 := hb3.size
  have HP3 := hid ((hb3.block P (by omega)).trans HP2.out)
  have HR3 := hid (ownsRow_below HR2.out hb3)
  have HO3 := hid ((hb3.block w.heap.size (by omega)).trans HO2.out)
  have HW3 := hid (below_tr HW2.out hb3); clear p0 p1 p2 p3 p4 p5 p6 p7 p8 p9 p10 p11 hb3 HP2 HR2 HO2 HW2 c3; have p0 : w3.cell? ⟨P, 0, none⟩ = some (.string d) := cell_of_row w3 _ 0 _ _ _ HP3.out
  go_upto_region 9 with (first | (go_at_call 25; (with_reducible refine (c4 _).mono ?_); rintro e w4 ⟨rfl, hb4⟩))
  have hsz4 := hb4.size
  have HP4 := hid ((hb4.block P (by omega)).trans HP3.out)
  have HR4 := hid (ownsRow_below HR3.out hb4)
  have HO4 := hid ((hb4.block w.heap.size (by omega)).trans HO3.out)
  have HW4 := hid (below_tr HW3.out hb4); clear p0 hb4 HP3 HR3 HO3 HW3 c4; have p0 : w4.cell? ⟨P, 0, none⟩ = some (.string d) := cell_of_row w4 _ 0 _ _ _ HP4.out; have p1 : w4.cell? ⟨P, 1, none⟩ = some (.int .i64 s.role) := cell_of_row w4 _ 1 _ _ _ HP4.out; have p2 : w4.cell? ⟨P, 2, none⟩ = some (.int .i64 s.step) := cell_of_row w4 _ 2 _ _ _ HP4.out; have p3 : w4.cell? ⟨P, 3, none⟩ = some (.int .i64 s.sent) := cell_of_row w4 _ 3 _ _ _ HP4.out; have p4 : w4.cell? ⟨P, 4, none⟩ = some (.int .i64 s.got) := cell_of_row w4 _ 4 _ _ _ HP4.out; have p5 : w4.cell? ⟨P, 5, none⟩ = some (.int .i64 s.prev) := cell_of_row w4 _ 5 _ _ _ HP4.out; have p6 : w4.cell? ⟨P, 6, none⟩ = some (.int .i64 s.skip) := cell_of_row w4 _ 6 _ _ _ HP4.out; have p7 : w4.cell? ⟨P, 7, none⟩ = some (.int .i64 s.cap) := cell_of_row w4 _ 7 _ _ _ HP4.out; have p8 : w4.cell? ⟨P, 8, none⟩ = some (.int .i64 s.secret) := cell_of_row w4 _ 8 _ _ _ HP4.out; have p9 : w4.cell? ⟨P, 9, none⟩ = some (.int .i64 pe) := cell_of_row w4 _ 9 _ _ _ HP4.out; have p10 : w4.cell? ⟨P, 10, none⟩ = some (.slice aa nn cc) := cell_of_row w4 _ 10 _ _ _ HP4.out; have p11 : w4.cell? ⟨P, 11, none⟩ = some (.slice xv L.length xc) := cell_of_row w4 _ 11 _ _ _ HP4.out; have o5 : w4.cell? ⟨w.heap.size, 5, none⟩ = some (.bool false) := cell_of_row w4 _ 5 _ _ _ HO4.out
  have hP4 : P < w4.heap.size := by omega
  go_upto_region 19 with fail
  go_cut [14] (fun x wx => x = .pointer (some ⟨w4.heap.size, 0, none⟩) ∧ wx.heap[w4.heap.size]? = some (.cells #[.string lt, .string txx, .int .i64 s.step, .int .i64 s.sent, .int .i64 s.prev, .int .i64 s.secret, .bool false] 63) ∧ w4.heap.size < wx.heap.size ∧ Below w4.heap.size w4 wx)
  case first =>
    go_region
    all_goals (go_wp2_with fail)
    all_goals go_meet
    all_goals exact ⟨rfl, heap_alloc_new w4 _, by simp, ((Below.refl w4.heap.size w4).alloc (Nat.le_refl _) _).drew⟩
  case rest =>
    obtain ⟨rfl, hLB, hLlt, hb5⟩ := hcut; have hsz5 := hb5.size
    have HP5 := hid ((hb5.block P (by omega)).trans HP4.out)
    have hr5 := ownsRow_below HR4.out hb5; have HW5 := hid (below_tr HW4.out hb5); clear p0 p1 p2 p3 p4 p5 p6 p7 p8 p9 p10 p11 o5 hb5 HP4 HR4 HW4 HO4; have p11 : wc.cell? ⟨P, 11, none⟩ = some (.slice xv L.length xc) := cell_of_row wc _ 11 _ _ _ HP5.out; have z0 : wc.cell? ⟨w4.heap.size, 0, none⟩ = some (.string lt) := cell_of_row wc _ 0 _ _ _ hLB; have z1 : wc.cell? ⟨w4.heap.size, 1, none⟩ = some (.string txx) := cell_of_row wc _ 1 _ _ _ hLB; have z2 : wc.cell? ⟨w4.heap.size, 2, none⟩ = some (.int .i64 s.step) := cell_of_row wc _ 2 _ _ _ hLB; have z3 : wc.cell? ⟨w4.heap.size, 3, none⟩ = some (.int .i64 s.sent) := cell_of_row wc _ 3 _ _ _ hLB; have z4 : wc.cell? ⟨w4.heap.size, 4, none⟩ = some (.int .i64 s.prev) := cell_of_row wc _ 4 _ _ _ hLB; have z5 : wc.cell? ⟨w4.heap.size, 5, none⟩ = some (.int .i64 s.secret) := cell_of_row wc _ 5 _ _ _ hLB; have z6 : wc.cell? ⟨w4.heap.size, 6, none⟩ = some (.bool false) := cell_of_row wc _ 6 _ _ _ hLB
    have hPc : P < wc.heap.size := by omega
    go_upto_region 20 with fail
    go_cut [] (fun wx => ∃ (g2 cap2 : Nat), wx.heap[P]? = some (.cells #[.string d, .int .i64 s.role, .int .i64 s.step, .int .i64 s.sent, .int .i64 s.got, .int .i64 s.prev, .int .i64 s.skip, .int .i64 s.cap, .int .i64 s.secret, .int .i64 pe, .slice aa nn cc, .slice (some ⟨g2, 0, none⟩) (L.length + 1) cap2] 41) ∧ wx.ownsRow base 63 7 (.slice (some ⟨g2, 0, none⟩) (L.length + 1) cap2) (L.length + 1) (ltsC L ++ [.string lt, .string txx, .int .i64 s.step, .int .i64 s.sent, .int .i64 s.prev, .int .i64 s.secret, .bool false]) ∧ ((Value.slice xv L.length xc).ownBlock = some g2 ∨ w.heap.size ≤ g2) ∧ Only (fun b => b = P ∨ (Value.slice xv L.length xc).ownBlock = some b) w wx)
    case first =>
      go_region_law (go_loud (refine step_append_lies _ (by rfl) _ _ _ (by rfl) base 63 i0 _ 7 72 Try.underlying39 hi0 hz0 hz1 hz2 rfl (by omega) (.slice xv L.length xc) L.length (ltsC L) (by rfl) ((hr5.alloc _).drew) ⟨wc.heap.size, 0, none⟩ 1 1 [.string lt, .string txx, .int .i64 s.step, .int .i64 s.sent, .int .i64 s.prev, .int .i64 s.secret, .bool false] (by rfl) (by rfl) (World.news_of_block (cs := #[.string lt, .string txx, .int .i64 s.step, .int .i64 s.sent, .int .i64 s.prev, .int .i64 s.secret, .bool false]) (t := 63) (fr := (0, 0)) (heap_alloc_new wc _)) (by simp [Value.oneCell']) (by omega) (by unfold maxLen; omega) (by omega) (by simp; omega) (wc.heap.size + 1) (by simp) ?_); intro g2 cap2 w7 hown7 hgrow hat hlt7; have hP7 := (grown_block ((hr5.alloc _).drew) hgrow hPb (by simp; omega)).trans ((Below.heap_alloc _ _ _ hPc).trans HP5.out); have y11 : w7.cell? ⟨P, 11, none⟩ = some (.slice xv L.length xc) := cell_of_row w7 _ 11 _ _ _ hP7; have fB : ∀ j, w7.frozen? ⟨P, j, none⟩ = false := fun j => frozen_of_row w7 _ j _ _ hP7)
      all_goals (go_wp2_with fail)
      all_goals go_meet
      all_goals exact ⟨g2, cap2, heap_setCell_same _ _ _ _ _ _ hP7, ownsRow_setCell_below hown7 (by exact hPb) _, (by rcases hat with h9 | h9; exact .inl h9; (have h8 := HW5.out.size; exact .inr (by omega))), (((Only.of_below HW5.out).then (((Below.refl _ _).alloc (Nat.le_refl _) _).drew)).grown hgrow (fun k hk _ => .inr hk)).set (b := P) (.inl rfl) _⟩
    case rest =>
      obtain ⟨g2, cap2, hP8, hR8, hF8, hN8⟩ := hcut; have HF8 := hid hF8; clear p11 z0 z1 z2 z3 z4 z5 z6 hLB hr5 HP5; have HP8 := hid hP8; have HR8 := hid hR8; have HN8 := hid hN8; have p0 : wc.cell? ⟨P, 0, none⟩ = some (.string d) := cell_of_row wc _ 0 _ _ _ hP8; have p1 : wc.cell? ⟨P, 1, none⟩ = some (.int .i64 s.role) := cell_of_row wc _ 1 _ _ _ hP8; have p2 : wc.cell? ⟨P, 2, none⟩ = some (.int .i64 s.step) := cell_of_row wc _ 2 _ _ _ hP8; have p3 : wc.cell? ⟨P, 3, none⟩ = some (.int .i64 s.sent) := cell_of_row wc _ 3 _ _ _ hP8; have p4 : wc.cell? ⟨P, 4, none⟩ = some (.int .i64 s.got) := cell_of_row wc _ 4 _ _ _ hP8; have p5 : wc.cell? ⟨P, 5, none⟩ = some (.int .i64 s.prev) := cell_of_row wc _ 5 _ _ _ hP8; have p6 : wc.cell? ⟨P, 6, none⟩ = some (.int .i64 s.skip) := cell_of_row wc _ 6 _ _ _ hP8; have p7 : wc.cell? ⟨P, 7, none⟩ = some (.int .i64 s.cap) := cell_of_row wc _ 7 _ _ _ hP8; have p8 : wc.cell? ⟨P, 8, none⟩ = some (.int .i64 s.secret) := cell_of_row wc _ 8 _ _ _ hP8; have p9 : wc.cell? ⟨P, 9, none⟩ = some (.int .i64 pe) := cell_of_row wc _ 9 _ _ _ hP8; have p10 : wc.cell? ⟨P, 10, none⟩ = some (.slice aa nn cc) := cell_of_row wc _ 10 _ _ _ hP8; have p11 : wc.cell? ⟨P, 11, none⟩ = some (.slice (some ⟨g2, 0, none⟩) (L.length + 1) cap2) := cell_of_row wc _ 11 _ _ _ hP8
      have fP : ∀ j, wc.frozen? ⟨P, j, none⟩ = false := fun j => frozen_of_row wc _ j _ _ hP8
      clear hP8 hR8 hN8 hF8
      have hPw : P < wc.heap.size := by have := HN8.out.size; omega
      go_upto_region 22 with (first | (go_at_call 30; (with_reducible refine (c5 _).mono ?_); rintro e w9 ⟨rfl, hb9⟩; have hPx := (hb9.block P hPw).trans HP8.out; have u0 : w9.cell? ⟨P, 0, none⟩ = some (.string d) := cell_of_row w9 _ 0 _ _ _ hPx; have u1 : w9.cell? ⟨P, 1, none⟩ = some (.int .i64 s.role) := cell_of_row w9 _ 1 _ _ _ hPx; have u2 : w9.cell? ⟨P, 2, none⟩ = some (.int .i64 s.step) := cell_of_row w9 _ 2 _ _ _ hPx; have u3 : w9.cell? ⟨P, 3, none⟩ = some (.int .i64 s.sent) := cell_of_row w9 _ 3 _ _ _ hPx; have u4 : w9.cell? ⟨P, 4, none⟩ = some (.int .i64 s.got) := cell_of_row w9 _ 4 _ _ _ hPx; have u5 : w9.cell? ⟨P, 5, none⟩ = some (.int .i64 s.prev) := cell_of_row w9 _ 5 _ _ _ hPx; have u6 : w9.cell? ⟨P, 6, none⟩ = some (.int .i64 s.skip) := cell_of_row w9 _ 6 _ _ _ hPx; have u7 : w9.cell? ⟨P, 7, none⟩ = some (.int .i64 s.cap) := cell_of_row w9 _ 7 _ _ _ hPx; have u8 : w9.cell? ⟨P, 8, none⟩ = some (.int .i64 s.secret) := cell_of_row w9 _ 8 _ _ _ hPx; have u9 : w9.cell? ⟨P, 9, none⟩ = some (.int .i64 pe) := cell_of_row w9 _ 9 _ _ _ hPx; have u10 : w9.cell? ⟨P, 10, none⟩ = some (.slice aa nn cc) := cell_of_row w9 _ 10 _ _ _ hPx; have u11 : w9.cell? ⟨P, 11, none⟩ = some (.slice (some ⟨g2, 0, none⟩) (L.length + 1) cap2) := cell_of_row w9 _ 11 _ _ _ hPx; have fP9 : ∀ j, w9.frozen? ⟨P, j, none⟩ = false := fun j => frozen_of_row w9 _ j _ _ hPx; clear hPx))
      have hP9 := (hb9.block P hPw).trans HP8.out; have HR9 := hid (ownsRow_below HR8.out hb9)
      have HN9 : Hid (Only (fun b => b = P ∨ (Value.slice xv L.length xc).ownBlock = some b) w w9) := HN8.out.then hb9
      obtain ⟨wA, hwA, hXA, hNA⟩ := storeP hP9 (.int .i64 s.role) (.int .i64 s.step) (.int .i64 ((s.sent : Int) + 1)) (.int .i64 s.got) (.int .i64 s.prev) (.int .i64 s.skip) (.int .i64 s.cap) (.int .i64 s.secret) (.int .i64 pe) (.slice aa nn cc); rw [← hwA]; clear hwA hP9 u0 u1 u2 u3 u4 u5 u6 u7 u8 u9 u10 u11 fP9 p0 p1 p2 p3 p4 p5 p6 p7 p8 p9 p10 p11 fP hb9 c5
      have HRA := hid (hNA.own HR9.out (fun q hq h => by have := (HR9.out.lt q hq).1; omega))
      have HNA : Hid (Only (fun b => b = P ∨ (Value.slice xv L.length xc).ownBlock = some b) w wA) := HN9.out.trans (hNA.mono (fun q _ h => .inl h))
      have HXA := hid hXA; have p0 : wA.cell? ⟨P, 0, none⟩ = some (.string d) := cell_of_row wA _ 0 _ _ _ hXA
      have fP : ∀ j, wA.frozen? ⟨P, j, none⟩ = false := fun j => frozen_of_row wA _ j _ _ hXA
      clear hXA hNA; go_wp2; go_ret
      refine ⟨rfl, some ⟨g2, 0, none⟩, L.length + 1, cap2, heap_setCell_same _ _ _ _ _ _ HXA.out, ?_, fun k hk => (by have h9 : g2 = k := Option.some.inj hk; rw [← h9]; exact HF8.out), HNA.out.set (b := P) (.inl rfl) _⟩
      rw [HPU.out.1, HPU.out.2, HC.out]
      exact ownsRow_setCell_below HRA.out (by exact hPb) _
end Go.Proofs.Ytabpkohcimiceab
