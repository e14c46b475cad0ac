import Derived.Test.YtabpkohcimiceabAgrX
namespace Go.Proofs.Ytabpkohcimiceab
set_option maxRecDepth 100000
set_option maxHeartbeats 1000000
open Go.RowKit
set_option linter.unusedVariables false
set_option linter.unusedSimpArgs false
attribute [local go_sem] wrap_ub ofNat_ub str_one_size
theorem creA_ok (u0 u1 u2 u3 u4 u5 u6 : Int) (u7 : ByteArray) (ca : Nat) (h : pickN u1 31 = (ca : Int)) : ca ≤ 30 ∧ creErr (List.replicate (blankK ca u6 * 32) (0 : UInt8)) 0 (pickN u0 13) (ca : Int) (shOut (secN u5) 7) (sizedL u7.data.toList 8) (secN u4) = 0 := by
  obtain ⟨sk0, sk1⟩ := pickN_bd u0 13 (by omega)
  obtain ⟨cp0, cp1⟩ := pickN_bd u1 31 (by omega)
  obtain ⟨rm0, rm1⟩ := pickN_bd u6 4 (by omega)
  have hsec := secN_sec u4
  have hpub : Pub (shOut (secN u5) 7) := by
    obtain ⟨_, _, _, _, _, _, _, q1, q2⟩ := agree_facts (secN u5) (secN u5) (secN_sec _) (secN_sec _)
    unfold Pub; omega
  have hcpb : ca ≤ 30 := by omega
  obtain ⟨hh1, hh2, _⟩ := halfN_le ca hcpb; have hbk : blankK ca u6 = 1 + 2 * halfN ca + (pickN u6 4).toNat := rfl
  refine ⟨hcpb, ?_⟩
  rw [creErr, if_pos (disk_of_len _ (blankK ca u6) List.length_replicate (by omega) (by omega)), if_pos, if_pos (sizedL_length _ _), List.length_replicate, Int.toNat_natCast, if_neg (by omega), if_pos rfl]
  exact ⟨hsec, ⟨by omega, by omega, by omega, by omega⟩, .inl ⟨rfl, hpub⟩⟩
theorem creB_ok (u0 u1 u2 u3 u4 u5 u6 : Int) (u7 : ByteArray) (cb : Nat) (h : pickN u3 31 = (cb : Int)) : cb ≤ 30 ∧ creErr (List.replicate (blankK cb u6 * 32) (0 : UInt8)) 1 (pickN u2 13) (cb : Int) 0 (sizedL u7.data.toList 8) (secN u5) = 0 := by
  obtain ⟨sk0, sk1⟩ := pickN_bd u2 13 (by omega)
  obtain ⟨cp0, cp1⟩ := pickN_bd u3 31 (by omega)
  obtain ⟨rm0, rm1⟩ := pickN_bd u6 4 (by omega)
  have hsec := secN_sec u5
  have hcpb : cb ≤ 30 := by omega
  obtain ⟨hh1, hh2, _⟩ := halfN_le cb hcpb; have hbk : blankK cb u6 = 1 + 2 * halfN cb + (pickN u6 4).toNat := rfl
  refine ⟨hcpb, ?_⟩
  rw [creErr, if_pos (disk_of_len _ (blankK cb u6) List.length_replicate (by omega) (by omega)), if_pos, if_pos (sizedL_length _ _), List.length_replicate, Int.toNat_natCast, if_neg (by omega), if_pos rfl]
  exact ⟨hsec, ⟨by omega, by omega, by omega, by omega⟩, .inr ⟨rfl, rfl⟩⟩
theorem keepBoth_any (u0 u1 u2 u3 u4 u5 u6 : Int) (u7 : ByteArray) (ca cb : Nat) (w : World) (h0 : (-9223372036854775808 ≤ u0 ∧ u0 ≤ 9223372036854775807)) (h1 : (-9223372036854775808 ≤ u1 ∧ u1 ≤ 9223372036854775807)) (h2 : (-9223372036854775808 ≤ u2 ∧ u2 ≤ 9223372036854775807)) (h3 : (-9223372036854775808 ≤ u3 ∧ u3 ≤ 9223372036854775807)) (h4 : (-9223372036854775808 ≤ u4 ∧ u4 ≤ 9223372036854775807)) (h5 : (-9223372036854775808 ≤ u5 ∧ u5 ≤ 9223372036854775807)) (h6 : (-9223372036854775808 ≤ u6 ∧ u6 ≤ 9223372036854775807)) (h7 : u7.size ≤ maxLen) (hca : pickN u1 31 = (ca : Int)) (hcb : pickN u3 31 = (cb : Int)) :
    Calls Try.prog 22 #[.agg #[.int .i64 u0, .int .i64 u1, .int .i64 u2, .int .i64 u3, .int .i64 u4, .int .i64 u5, .int .i64 u6, .string u7]] w fun e w' => e = .returned (.tuple #[.string (str (creTo (List.replicate (blankK ca u6 * 32) (0 : UInt8)) 0 (pickN u0 13) (ca : Int) (shOut (secN u5) 7) (sizedL u7.data.toList 8) (secN u4))), .string (str (creTo (List.replicate (blankK cb u6 * 32) (0 : UInt8)) 1 (pickN u2 13) (cb : Int) 0 (sizedL u7.data.toList 8) (secN u5))), .bool true]) ∧ Below w.heap.size w w' := by
  have c0 := fun w => configs_any u0 u1 u2 u3 u4 u5 u6 u7 w h0 h1 h2 h3 h5
  rw [hca, hcb] at c0
  obtain ⟨ha1, ha2⟩ := creA_ok u0 u1 u2 u3 u4 u5 u6 u7 ca hca; obtain ⟨hb1, hb2⟩ := creB_ok u0 u1 u2 u3 u4 u5 u6 u7 cb hcb
  have c1 := fun w => made_any u0 u1 u2 u3 u4 u5 u6 u7 0 (pickN u0 13) (shOut (secN u5) 7) u4 ca w h6 h4 h7 ha1 ha2
  have c2 := fun w => made_any u0 u1 u2 u3 u4 u5 u6 u7 1 (pickN u2 13) 0 u5 cb w h6 h5 h7 hb1 hb2
  generalize (creTo (List.replicate (blankK ca u6 * 32) (0 : UInt8)) 0 (pickN u0 13) (ca : Int) (shOut (secN u5) 7) (sizedL u7.data.toList 8) (secN u4)) = da at *
  generalize (creTo (List.replicate (blankK cb u6 * 32) (0 : UInt8)) 1 (pickN u2 13) (cb : Int) 0 (sizedL u7.data.toList 8) (secN u5)) = db at *
  generalize pickN u0 13 = sa at *
  generalize pickN u2 13 = sb at *
  generalize shOut (secN u5) 7 = pe at *
  have c1' : ∀ w, Calls Try.prog 36 #[.agg #[.int .i64 u0, .int .i64 u1, .int .i64 u2, .int .i64 u3, .int .i64 u4, .int .i64 u5, .int .i64 u6, .string u7], .agg #[.int .i64 0, .int .i64 sa, .int .i64 ca, .int .i64 pe], .int .i64 u4] w fun e w' => e = .returned (.tuple #[.string (str da), .bool true]) ∧ Below w.heap.size w w' := c1
  have c2' : ∀ w, Calls Try.prog 36 #[.agg #[.int .i64 u0, .int .i64 u1, .int .i64 u2, .int .i64 u3, .int .i64 u4, .int .i64 u5, .int .i64 u6, .string u7], .agg #[.int .i64 1, .int .i64 sb, .int .i64 cb, .int .i64 0], .int .i64 u5] w fun e w' => e = .returned (.tuple #[.string (str db), .bool true]) ∧ Below w.heap.size w w' := c2
  clear c1 c2 ha2 hb2 hca hcb; have tok1 : True := trivial
  go_enter Try.func22, Try.ntmps22
  go_upto_region 1 with fail
  obtain ⟨ob, eob⟩ : ∃ ob, ob = Obj.cells #[.int .i64 u0, .int .i64 u1, .int .i64 u2, .int .i64 u3, .int .i64 u4, .int .i64 u5, .int .i64 u6, .string u7] 23 := ⟨_, rfl⟩
  rw [← eob]; have hS := heap_alloc_new w ob; have hW : Below w.heap.size w (w.alloc ob) := (Below.refl _ _).alloc (Nat.le_refl _) _
  have hlt : w.heap.size < (w.alloc ob).heap.size := by simp
  generalize (w.alloc ob) = wa at hS hW hlt ⊢
  subst eob; have HS := hid hS; have HW := hid hW; have k0 : wa.cell? ⟨w.heap.size, 0, none⟩ = some (.int .i64 u0) := cell_of_row wa _ 0 _ _ _ hS; have k1 : wa.cell? ⟨w.heap.size, 1, none⟩ = some (.int .i64 u1) := cell_of_row wa _ 1 _ _ _ hS; have k2 : wa.cell? ⟨w.heap.size, 2, none⟩ = some (.int .i64 u2) := cell_of_row wa _ 2 _ _ _ hS; have k3 : wa.cell? ⟨w.heap.size, 3, none⟩ = some (.int .i64 u3) := cell_of_row wa _ 3 _ _ _ hS; have k4 : wa.cell? ⟨w.heap.size, 4, none⟩ = some (.int .i64 u4) := cell_of_row wa _ 4 _ _ _ hS; have k5 : wa.cell? ⟨w.heap.size, 5, none⟩ = some (.int .i64 u5) := cell_of_row wa _ 5 _ _ _ hS; have k6 : wa.cell? ⟨w.heap.size, 6, none⟩ = some (.int .i64 u6) := cell_of_row wa _ 6 _ _ _ hS; have k7 : wa.cell? ⟨w.heap.size, 7, none⟩ = some (.string u7) := cell_of_row wa _ 7 _ _ _ hS; clear hS hW
  go_upto_region 2 with (first | (go_at_call 21; (with_reducible refine (c0 _).mono ?_); rintro e w1 ⟨rfl, hb1⟩))
  have hsz1 := hb1.size
  have hS1 : ((w1.alloc (.cells #[.int .i64 0, .int .i64 sa, .int .i64 ca, .int .i64 pe] 57)).alloc (.cells #[.int .i64 1, .int .i64 sb, .int .i64 cb, .int .i64 0] 57)).heap[w.heap.size]? = some (.cells #[.int .i64 u0, .int .i64 u1, .int .i64 u2, .int .i64 u3, .int .i64 u4, .int .i64 u5, .int .i64 u6, .string u7] 23) := (Below.heap_alloc _ _ _ (by simp; omega)).trans ((Below.heap_alloc _ _ _ (by omega)).trans ((hb1.block w.heap.size hlt).trans HS.out))
  have hC1 : ((w1.alloc (.cells #[.int .i64 0, .int .i64 sa, .int .i64 ca, .int .i64 pe] 57)).alloc (.cells #[.int .i64 1, .int .i64 sb, .int .i64 cb, .int .i64 0] 57)).heap[w1.heap.size]? = some (.cells #[.int .i64 0, .int .i64 sa, .int .i64 ca, .int .i64 pe] 57) := (Below.heap_alloc _ _ _ (by simp)).trans (heap_alloc_new w1 _)
  have hD1 : ((w1.alloc (.cells #[.int .i64 0, .int .i64 sa, .int .i64 ca, .int .i64 pe] 57)).alloc (.cells #[.int .i64 1, .int .i64 sb, .int .i64 cb, .int .i64 0] 57)).heap[w1.heap.size + 1]? = some (.cells #[.int .i64 1, .int .i64 sb, .int .i64 cb, .int .i64 0] 57) := by
    have := heap_alloc_new (w1.alloc (.cells #[.int .i64 0, .int .i64 sa, .int .i64 ca, .int .i64 pe] 57)) (.cells #[.int .i64 1, .int .i64 sb, .int .i64 cb, .int .i64 0] 57)
    have e : (w1.alloc (.cells #[.int .i64 0, .int .i64 sa, .int .i64 ca, .int .i64 pe] 57)).heap.size = w1.heap.size + 1 := by simp
    rw [e] at this
    exact this
  have hW1 : Below w.heap.size w ((w1.alloc (.cells #[.int .i64 0, .int .i64 sa, .int .i64 ca, .int .i64 pe] 57)).alloc (.cells #[.int .i64 1, .int .i64 sb, .int .i64 cb, .int .i64 0] 57)) := ((below_tr HW.out hb1).alloc (below_tr HW.out hb1).size _).alloc (by have := (below_tr HW.out hb1).size; simp; omega) _
  have hlt1 : w1.heap.size + 1 < ((w1.alloc (.cells #[.int .i64 0, .int .i64 sa, .int .i64 ca, .int .i64 pe] 57)).alloc (.cells #[.int .i64 1, .int .i64 sb, .int .i64 cb, .int .i64 0] 57)).heap.size := by simp
  have hlt2 : w.heap.size < w1.heap.size := by omega
  generalize ((w1.alloc (.cells #[.int .i64 0, .int .i64 sa, .int .i64 ca, .int .i64 pe] 57)).alloc (.cells #[.int .i64 1, .int .i64 sb, .int .i64 cb, .int .i64 0] 57)) = wb at hS1 hC1 hD1 hW1 hlt1 ⊢
  generalize w1.heap.size = C at *
  have HS1 := hid hS1; have HC1 := hid hC1; have HD1 := hid hD1; have HW1 := hid hW1; clear k0 k1 k2 k3 k4 k5 k6 k7 hb1 c0 HS HW hlt hsz1; have k0 : wb.cell? ⟨w.heap.size, 0, none⟩ = some (.int .i64 u0) := cell_of_row wb _ 0 _ _ _ hS1; have k1 : wb.cell? ⟨w.heap.size, 1, none⟩ = some (.int .i64 u1) := cell_of_row wb _ 1 _ _ _ hS1; have k2 : wb.cell? ⟨w.heap.size, 2, none⟩ = some (.int .i64 u2) := cell_of_row wb _ 2 _ _ _ hS1; have k3 : wb.cell? ⟨w.heap.size, 3, none⟩ = some (.int .i64 u3) := cell_of_row wb _ 3 _ _ _ hS1; have k4 : wb.cell? ⟨w.heap.size, 4, none⟩ = some (.int .i64 u4) := cell_of_row wb _ 4 _ _ _ hS1; have k5 : wb.cell? ⟨w.heap.size, 5, none⟩ = some (.int .i64 u5) := cell_of_row wb _ 5 _ _ _ hS1; have k6 : wb.cell? ⟨w.heap.size, 6, none⟩ = some (.int .i64 u6) := cell_of_row wb _ 6 _ _ _ hS1; have k7 : wb.cell? ⟨w.heap.size, 7, none⟩ = some (.string u7) := cell_of_row wb _ 7 _ _ _ hS1; have p0 : wb.cell? ⟨C, 0, none⟩ = some (.int .i64 0) := cell_of_row wb _ 0 _ _ _ hC1; have p1 : wb.cell? ⟨C, 1, none⟩ = some (.int .i64 sa) := cell_of_row wb _ 1 _ _ _ hC1; have p2 : wb.cell? ⟨C, 2, none⟩ = some (.int .i64 ca) := cell_of_row wb _ 2 _ _ _ hC1; have p3 : wb.cell? ⟨C, 3, none⟩ = some (.int .i64 pe) := cell_of_row wb _ 3 _ _ _ hC1; clear hS1 hC1 hD1 hW1
  go_upto_region 7 with (first | (go_at_call 36; have _t := tok1; (with_reducible refine (c1' _).mono ?_); rintro e w2 ⟨rfl, hb2⟩; clear tok1))
  have hsz2 := hb2.size
  have hS2 := (hb2.block w.heap.size (by omega)).trans HS1.out
  have hD2 := (hb2.block (C + 1) hlt1).trans HD1.out; have HW2 : Hid (Below w.heap.size w w2) := below_tr HW1.out hb2; clear k0 k1 k2 k3 k4 k5 k6 k7 p0 p1 p2 p3 hb2; have k0 : w2.cell? ⟨w.heap.size, 0, none⟩ = some (.int .i64 u0) := cell_of_row w2 _ 0 _ _ _ hS2; have k1 : w2.cell? ⟨w.heap.size, 1, none⟩ = some (.int .i64 u1) := cell_of_row w2 _ 1 _ _ _ hS2; have k2 : w2.cell? ⟨w.heap.size, 2, none⟩ = some (.int .i64 u2) := cell_of_row w2 _ 2 _ _ _ hS2; have k3 : w2.cell? ⟨w.heap.size, 3, none⟩ = some (.int .i64 u3) := cell_of_row w2 _ 3 _ _ _ hS2; have k4 : w2.cell? ⟨w.heap.size, 4, none⟩ = some (.int .i64 u4) := cell_of_row w2 _ 4 _ _ _ hS2; have k5 : w2.cell? ⟨w.heap.size, 5, none⟩ = some (.int .i64 u5) := cell_of_row w2 _ 5 _ _ _ hS2; have k6 : w2.cell? ⟨w.heap.size, 6, none⟩ = some (.int .i64 u6) := cell_of_row w2 _ 6 _ _ _ hS2; have k7 : w2.cell? ⟨w.heap.size, 7, none⟩ = some (.string u7) := cell_of_row w2 _ 7 _ _ _ hS2; have p0 : w2.cell? ⟨C + 1, 0, none⟩ = some (.int .i64 1) := cell_of_row w2 _ 0 _ _ _ hD2; have p1 : w2.cell? ⟨C + 1, 1, none⟩ = some (.int .i64 sb) := cell_of_row w2 _ 1 _ _ _ hD2; have p2 : w2.cell? ⟨C + 1, 2, none⟩ = some (.int .i64 cb) := cell_of_row w2 _ 2 _ _ _ hD2; have p3 : w2.cell? ⟨C + 1, 3, none⟩ = some (.int .i64 0) := cell_of_row w2 _ 3 _ _ _ hD2; clear hS2 hD2 HS1 HC1 HD1 HW1
  go_wp2_with (first | (go_at_call 36; (with_reducible refine (c2' _).mono ?_); rintro e w3 ⟨rfl, hb3⟩))
  go_ret3
  exact ⟨rfl, below_tr HW2.out hb3⟩
theorem begun_any (u0 u1 u2 u3 u4 u5 u6 : Int) (u7 : ByteArray) (ca cb : Nat) (w : World) (h0 : (-9223372036854775808 ≤ u0 ∧ u0 ≤ 9223372036854775807)) (h1 : (-9223372036854775808 ≤ u1 ∧ u1 ≤ 9223372036854775807)) (h2 : (-9223372036854775808 ≤ u2 ∧ u2 ≤ 9223372036854775807)) (h3 : (-9223372036854775808 ≤ u3 ∧ u3 ≤ 9223372036854775807)) (h4 : (-9223372036854775808 ≤ u4 ∧ u4 ≤ 9223372036854775807)) (h5 : (-9223372036854775808 ≤ u5 ∧ u5 ≤ 9223372036854775807)) (h6 : (-9223372036854775808 ≤ u6 ∧ u6 ≤ 9223372036854775807)) (h7 : u7.size ≤ maxLen) (hca : pickN u1 31 = (ca : Int)) (hcb : pickN u3 31 = (cb : Int)) :
    Calls Try.prog 7 #[.agg #[.int .i64 u0, .int .i64 u1, .int .i64 u2, .int .i64 u3, .int .i64 u4, .int .i64 u5, .int .i64 u6, .string u7]] w fun e w' => (∃ P Q : Nat, e = .returned (.tuple #[.pointer (some ⟨P, 0, none⟩), .pointer (some ⟨Q, 0, none⟩), .bool true]) ∧ w.heap.size ≤ P ∧ P < Q ∧ Q < w'.heap.size ∧ w'.heap[P]? = some (.cells #[.string (str (creTo (List.replicate (blankK ca u6 * 32) (0 : UInt8)) 0 (pickN u0 13) (ca : Int) (shOut (secN u5) 7) (sizedL u7.data.toList 8) (secN u4))), .int .i64 0, .int .i64 1, .int .i64 0, .int .i64 0, .int .i64 0, .int .i64 (pickN u0 13), .int .i64 ca, .int .i64 (secN u4), .int .i64 (secN u5), .slice none 0 0, .slice none 0 0] 41) ∧ w'.heap[Q]? = some (.cells #[.string (str (creTo (List.replicate (blankK cb u6 * 32) (0 : UInt8)) 1 (pickN u2 13) (cb : Int) 0 (sizedL u7.data.toList 8) (secN u5))), .int .i64 1, .int .i64 0, .int .i64 0, .int .i64 0, .int .i64 0, .int .i64 (pickN u2 13), .int .i64 cb, .int .i64 (secN u5), .int .i64 0, .slice none 0 0, .slice none 0 0] 41)) ∧ Below w.heap.size w w' := by
  have c0 := fun w => configs_any u0 u1 u2 u3 u4 u5 u6 u7 w h0 h1 h2 h3 h5
  rw [hca, hcb] at c0
  have c1 := fun w => keepBoth_any u0 u1 u2 u3 u4 u5 u6 u7 ca cb w h0 h1 h2 h3 h4 h5 h6 h7 hca hcb
  have c3 := fun w => secretOf_any u4 w h4.1 h4.2
  have c4 := fun w => secretOf_any u5 w h5.1 h5.2
  generalize (creTo (List.replicate (blankK ca u6 * 32) (0 : UInt8)) 0 (pickN u0 13) (ca : Int) (shOut (secN u5) 7) (sizedL u7.data.toList 8) (secN u4)) = da at *
  generalize (creTo (List.replicate (blankK cb u6 * 32) (0 : UInt8)) 1 (pickN u2 13) (cb : Int) 0 (sizedL u7.data.toList 8) (secN u5)) = db at *
  generalize pickN u0 13 = sa at *
  generalize pickN u2 13 = sb at *
  generalize shOut (secN u5) 7 = pe at *
  generalize secN u4 = xa at *
  generalize secN u5 = xb at *
  clear hca hcb
  go_enter Try.func7, Try.ntmps7
  go_upto_region 1 with fail
  obtain ⟨ob, eob⟩ : ∃ ob, ob = Obj.cells #[.int .i64 u0, .int .i64 u1, .int .i64 u2, .int .i64 u3, .int .i64 u4, .int .i64 u5, .int .i64 u6, .string u7] 23 := ⟨_, rfl⟩
  rw [← eob]; have hS := heap_alloc_new w ob; have hW : Below w.heap.size w (w.alloc ob) := (Below.refl _ _).alloc (Nat.le_refl _) _
  have hlt : w.heap.size < (w.alloc ob).heap.size := by simp
  generalize (w.alloc ob) = wa at hS hW hlt ⊢
  subst eob; have HS := hid hS; have HW := hid hW; have k0 : wa.cell? ⟨w.heap.size, 0, none⟩ = some (.int .i64 u0) := cell_of_row wa _ 0 _ _ _ hS; have k1 : wa.cell? ⟨w.heap.size, 1, none⟩ = some (.int .i64 u1) := cell_of_row wa _ 1 _ _ _ hS; have k2 : wa.cell? ⟨w.heap.size, 2, none⟩ = some (.int .i64 u2) := cell_of_row wa _ 2 _ _ _ hS; have k3 : wa.cell? ⟨w.heap.size, 3, none⟩ = some (.int .i64 u3) := cell_of_row wa _ 3 _ _ _ hS; have k4 : wa.cell? ⟨w.heap.size, 4, none⟩ = some (.int .i64 u4) := cell_of_row wa _ 4 _ _ _ hS; have k5 : wa.cell? ⟨w.heap.size, 5, none⟩ = some (.int .i64 u5) := cell_of_row wa _ 5 _ _ _ hS; have k6 : wa.cell? ⟨w.heap.size, 6, none⟩ = some (.int .i64 u6) := cell_of_row wa _ 6 _ _ _ hS; have k7 : wa.cell? ⟨w.heap.size, 7, none⟩ = some (.string u7) := cell_of_row wa _ 7 _ _ _ hS; clear hS hW
  go_upto_region 2 with (first | (go_at_call 21; (with_reducible refine (c0 _).mono ?_); rintro e w1 ⟨rfl, hb1⟩))
  have hsz1 := hb1.size
  have hS1 : ((w1.alloc (.cells #[.int .i64 0, .int .i64 sa, .int .i64 ca, .int .i64 pe] 57)).alloc (.cells #[.int .i64 1, .int .i64 sb, .int .i64 cb, .int .i64 0] 57)).heap[w.heap.size]? = some (.cells #[.int .i64 u0, .int .i64 u1, .int .i64 u2, .int .i64 u3, .int .i64 u4, .int .i64 u5, .int .i64 u6, .string u7] 23) := (Below.heap_alloc _ _ _ (by simp; omega)).trans ((Below.heap_alloc _ _ _ (by omega)).trans ((hb1.block w.heap.size hlt).trans HS.out))
  have hC1 : ((w1.alloc (.cells #[.int .i64 0, .int .i64 sa, .int .i64 ca, .int .i64 pe] 57)).alloc (.cells #[.int .i64 1, .int .i64 sb, .int .i64 cb, .int .i64 0] 57)).heap[w1.heap.size]? = some (.cells #[.int .i64 0, .int .i64 sa, .int .i64 ca, .int .i64 pe] 57) := (Below.heap_alloc _ _ _ (by simp)).trans (heap_alloc_new w1 _)
  have hD1 : ((w1.alloc (.cells #[.int .i64 0, .int .i64 sa, .int .i64 ca, .int .i64 pe] 57)).alloc (.cells #[.int .i64 1, .int .i64 sb, .int .i64 cb, .int .i64 0] 57)).heap[w1.heap.size + 1]? = some (.cells #[.int .i64 1, .int .i64 sb, .int .i64 cb, .int .i64 0] 57) := by
    have := heap_alloc_new (w1.alloc (.cells #[.int .i64 0, .int .i64 sa, .int .i64 ca, .int .i64 pe] 57)) (.cells #[.int .i64 1, .int .i64 sb, .int .i64 cb, .int .i64 0] 57)
    have e : (w1.alloc (.cells #[.int .i64 0, .int .i64 sa, .int .i64 ca, .int .i64 pe] 57)).heap.size = w1.heap.size + 1 := by simp
    rw [e] at this
    exact this
  have hW1 : Below w.heap.size w ((w1.alloc (.cells #[.int .i64 0, .int .i64 sa, .int .i64 ca, .int .i64 pe] 57)).alloc (.cells #[.int .i64 1, .int .i64 sb, .int .i64 cb, .int .i64 0] 57)) := ((below_tr HW.out hb1).alloc (below_tr HW.out hb1).size _).alloc (by have := (below_tr HW.out hb1).size; simp; omega) _
  have hlt1 : w1.heap.size + 1 < ((w1.alloc (.cells #[.int .i64 0, .int .i64 sa, .int .i64 ca, .int .i64 pe] 57)).alloc (.cells #[.int .i64 1, .int .i64 sb, .int .i64 cb, .int .i64 0] 57)).heap.size := by simp
  have hlt2 : w.heap.size < w1.heap.size := by omega
  generalize ((w1.alloc (.cells #[.int .i64 0, .int .i64 sa, .int .i64 ca, .int .i64 pe] 57)).alloc (.cells #[.int .i64 1, .int .i64 sb, .int .i64 cb, .int .i64 0] 57)) = wb at hS1 hC1 hD1 hW1 hlt1 ⊢
  generalize w1.heap.size = C at *
  have HS1 := hid hS1; have HC1 := hid hC1; have HD1 := hid hD1; have HW1 := hid hW1; clear k0 k1 k2 k3 k4 k5 k6 k7 hb1 c0 HS HW hlt hsz1; have k0 : wb.cell? ⟨w.heap.size, 0, none⟩ = some (.int .i64 u0) := cell_of_row wb _ 0 _ _ _ hS1; have k1 : wb.cell? ⟨w.heap.size, 1, none⟩ = some (.int .i64 u1) := cell_of_row wb _ 1 _ _ _ hS1; have k2 : wb.cell? ⟨w.heap.size, 2, none⟩ = some (.int .i64 u2) := cell_of_row wb _ 2 _ _ _ hS1; have k3 : wb.cell? ⟨w.heap.size, 3, none⟩ = some (.int .i64 u3) := cell_of_row wb _ 3 _ _ _ hS1; have k4 : wb.cell? ⟨w.heap.size, 4, none⟩ = some (.int .i64 u4) := cell_of_row wb _ 4 _ _ _ hS1; have k5 : wb.cell? ⟨w.heap.size, 5, none⟩ = some (.int .i64 u5) := cell_of_row wb _ 5 _ _ _ hS1; have k6 : wb.cell? ⟨w.heap.size, 6, none⟩ = some (.int .i64 u6) := cell_of_row wb _ 6 _ _ _ hS1; have k7 : wb.cell? ⟨w.heap.size, 7, none⟩ = some (.string u7) := cell_of_row wb _ 7 _ _ _ hS1; clear hS1 hC1 hD1 hW1
  go_upto_region 8 with (first | (go_at_call 22; (with_reducible refine (c1 _).mono ?_); rintro e w2 ⟨rfl, hb2⟩))
  have hsz2 := hb2.size
  have hS2 := (hb2.block w.heap.size (by omega)).trans HS1.out
  have hC2 := (hb2.block C (by omega)).trans HC1.out
  have hD2 := (hb2.block (C + 1) hlt1).trans HD1.out
  have hCP : C + 1 < w2.heap.size := by omega
  have HW2 : Hid (Below w.heap.size w w2) := below_tr HW1.out hb2; have HS2 := hid hS2; have HD2 := hid hD2; clear k0 k1 k2 k3 k4 k5 k6 k7 hb2 HS1 HC1 HD1 HW1 c1; have k4 : w2.cell? ⟨w.heap.size, 4, none⟩ = some (.int .i64 u4) := cell_of_row w2 _ 4 _ _ _ hS2; have k5 : w2.cell? ⟨w.heap.size, 5, none⟩ = some (.int .i64 u5) := cell_of_row w2 _ 5 _ _ _ hS2; have p1 : w2.cell? ⟨C, 1, none⟩ = some (.int .i64 sa) := cell_of_row w2 _ 1 _ _ _ hC2; have p2 : w2.cell? ⟨C, 2, none⟩ = some (.int .i64 ca) := cell_of_row w2 _ 2 _ _ _ hC2; clear hS2 hC2 hD2
  go_cut [] (fun wx => wx.heap[w2.heap.size]? = some (.cells #[.string (str da), .int .i64 0, .int .i64 1, .int .i64 0, .int .i64 0, .int .i64 0, .int .i64 sa, .int .i64 ca, .int .i64 xa, .int .i64 xb, .slice none 0 0, .slice none 0 0] 41) ∧ Below w2.heap.size w2 wx ∧ w2.heap.size < wx.heap.size)
  case first =>
    go_region_held3 (fun w' => w'.cell? ⟨C, 1, none⟩ = some (.int .i64 sa) ∧ w'.cell? ⟨C, 2, none⟩ = some (.int .i64 ca) ∧ w'.cell? ⟨w.heap.size, 4, none⟩ = some (.int .i64 u4) ∧ w'.cell? ⟨w.heap.size, 5, none⟩ = some (.int .i64 u5)) (simp (maxDischargeDepth := 40) [World.cell?_alloc_some, p1, p2, k4, k5]) (first | (go_at_call 10; go_must (first | (with_reducible refine (c3 _).mono ?_) | (with_reducible refine (c4 _).mono ?_)); rintro e w' ⟨rfl, hw⟩; rw [hw]; clear hw w'))
    all_goals (go_wp2_with fail)
    all_goals go_meet
    all_goals (
      refine ⟨heap_alloc_new w2 _, ?_, by simp⟩
      repeat (first | exact Below.refl _ _ | apply Below.drew | (refine Below.alloc ?_ (by first | exact Nat.le_refl _ | (simp; done) | (simp; omega)) _)))
  case rest =>
  obtain ⟨hP3, hb3, hlt3⟩ := hcut; have hsz3 := hb3.size
  have hS3 := (hb3.block w.heap.size (by omega)).trans HS2.out
  have hD3 := (hb3.block (C + 1) hCP).trans HD2.out; have HP3 := hid hP3; have HW3 : Hid (Below w.heap.size w wc) := below_tr HW2.out hb3; have hPw : w.heap.size ≤ w2.heap.size := HW2.out.size
  generalize w2.heap.size = P at *
  clear k4 k5 p1 p2 HS2 HD2 HW2 hb3 hsz3 hsz2; have k5 : wc.cell? ⟨w.heap.size, 5, none⟩ = some (.int .i64 u5) := cell_of_row wc _ 5 _ _ _ hS3; have p1 : wc.cell? ⟨C + 1, 1, none⟩ = some (.int .i64 sb) := cell_of_row wc _ 1 _ _ _ hD3; have p2 : wc.cell? ⟨C + 1, 2, none⟩ = some (.int .i64 cb) := cell_of_row wc _ 2 _ _ _ hD3
  obtain ⟨wd, hwd⟩ : ∃ wd : World, wd = wc := ⟨_, rfl⟩
  subst hwd; clear hS3 hD3 hP3
  go_upto_region 10 with fail
  go_cut [] (fun wx => wx.heap[wd.heap.size]? = some (.cells #[.string (str db), .int .i64 1, .int .i64 0, .int .i64 0, .int .i64 0, .int .i64 0, .int .i64 sb, .int .i64 cb, .int .i64 xb, .int .i64 0, .slice none 0 0, .slice none 0 0] 41) ∧ Below wd.heap.size wd wx ∧ wd.heap.size < wx.heap.size)
  case first =>
    go_region_held3 (fun w' => w'.cell? ⟨C + 1, 1, none⟩ = some (.int .i64 sb) ∧ w'.cell? ⟨C + 1, 2, none⟩ = some (.int .i64 cb) ∧ w'.cell? ⟨w.heap.size, 5, none⟩ = some (.int .i64 u5)) (simp (maxDischargeDepth := 40) [World.cell?_alloc_some, p1, p2, k5]) (first | (go_at_call 10; go_must (with_reducible refine (c4 _).mono ?_); rintro e w' ⟨rfl, hw⟩; rw [hw]; clear hw w'))
    all_goals (go_wp2_with fail)
    all_goals go_meet
    all_goals (
      refine ⟨heap_alloc_new wd _, ?_, by simp⟩
      repeat (first | exact Below.refl _ _ | apply Below.drew | (refine Below.alloc ?_ (by first | exact Nat.le_refl _ | (simp; done) | (simp; omega)) _)))
  case rest =>
  obtain ⟨hQ4, hb4, hlt4⟩ := hcut; have HP4 := hid ((hb4.block P hlt3).trans HP3.out); have HQ4 := hid hQ4; have HW4 : Hid (Below w.heap.size w wc) := below_tr HW3.out hb4; clear hQ4 hb4 HP3 HW3 k5 p1 p2; go_wp2
  go_ret3
  exact ⟨⟨P, wd.heap.size, rfl, hPw, hlt3, hlt4, HP4.out, HQ4.out⟩, HW4.out⟩
theorem Try.infoLetter : (Try.prog.info? 63).map (fun i => (i.zero, i.size, i.bytes)) = some (some (.agg #[.string ⟨#[]⟩, .string ⟨#[]⟩, .int .i64 0, .int .i64 0, .int .i64 0, .int .i64 0, .bool false]), 7, 72) := by kernel_rfl
theorem grown_block {X w2 : World} {v : Value} {base n size : Nat} {e : TypeId} {xs : List Value} (hown : X.ownsRow base e size v n xs) (hg : X.grownBy w2 v.ownBlock) {b : Nat} (hb : b < base) (hlt : b < X.heap.size) : w2.heap[b]? = X.heap[b]? := by
  obtain ⟨_, _, _, _, g5⟩ := hg
  exact g5 b hlt (fun q => by have := (hown.lt b q.symm).1; omega)
def ofStepN (L : List LtM) (st : Nat) : Nat := (L.filter fun x => x.step == st).length
theorem ofStepN_push (L : List LtM) (st j : Nat) (h : j < L.length) : ofStepN (L.take (j + 1)) st = ofStepN (L.take j) st + if (L.getD j ltZ).step = st then 1 else 0 := by
  rw [ofStepN, take_push L ltZ j h, List.filter_append, List.length_append, ofStepN, List.filter_cons, List.filter_nil]
  by_cases q : (L.getD j ltZ).step = st
  · rw [if_pos q, if_pos (by rw [q]; simp)]; rfl
  · rw [if_neg q, if_neg (by simpa using q)]; rfl
theorem ofStepN_le (L : List LtM) (st j : Nat) : ofStepN (L.take j) st ≤ j := by
  rw [ofStepN]
  have := List.length_filter_le (fun x : LtM => x.step == st) (L.take j)
  rw [List.length_take] at this
  omega
theorem writes_full (P base : Nat) (d : ByteArray) (b1 b2 b3 b4 b5 b6 b7 b8 b9 b10 : Value) (xv : Option Addr) (xn xc : Nat) (L : List LtM) (st : Nat) (t : ByteArray) (k : Nat) (w : World) (hP : w.heap[P]? = some (.cells #[.string d, b1, b2, b3, b4, b5, b6, b7, b8, b9, b10, .slice xv xn xc] 41)) (hrow : w.ownsRow base 63 7 (.slice xv xn xc) L.length (ltsC L)) (hPb : P < base) (hbase : base ≤ w.heap.size) (hL : L.length ≤ 100000)
    (ht : t.size ≤ maxLen) (hg : GoodD d.data.toList k) (hst : st ≤ 29) (hst0 : st ≠ 0) (hn : ofStepN L st < 50) (herr : sendErr d.data.toList (t.data.toList.take 40) = 0) :
    Calls Try.prog 8 #[.pointer (some ⟨P, 0, none⟩), .int .i64 st, .string t] w fun e w' => e = .returned (.bool true) ∧ ∃ (yv : Option Addr) (yn yc : Nat), w'.heap[P]? = some (.cells #[.string (str (sendTo d.data.toList (t.data.toList.take 40))), b1, b2, b3, b4, b5, b6, b7, b8, b9, b10, .slice yv yn yc] 41) ∧ w'.ownsRow base 63 7 (.slice yv yn yc) (L ++ [(⟨letL (heldS d.data.toList) (t.data.toList.take 40), t.data.toList.take 40, st, 0, 0, 0, false⟩ : LtM)]).length (ltsC (L ++ [(⟨letL (heldS d.data.toList) (t.data.toList.take 40), t.data.toList.take 40, st, 0, 0, 0, false⟩ : LtM)])) ∧ Only (fun b => b = P ∨ (Value.slice xv xn xc).ownBlock = some b) w w' ∧ ∀ b, (Value.slice yv yn yc).ownBlock = some b → (Value.slice xv xn xc).ownBlock = some b ∨ w.heap.size ≤ b := by
  obtain ⟨i0, hi0, hz0, hz1, hz2⟩ := info_parts Try.infoLetter; obtain ⟨xa, xb, hxv⟩ := ltForm hrow
  injection hxv with x1 x2 x3
  subst x2; clear x1 x3 xa xb
  have hds : d.size = k * 32 := by rw [← len_list]; exact hg.len
  have hk2 := hg.k2
  have hdm : d.size ≤ maxLen := by unfold maxLen; omega
  have c1 := fun w => cutTo_any t 40 w (by omega) (by omega) ht
  rw [show (40 : Int).toNat = 40 from rfl] at c1
  have c2 := fun w => pawlSend_any d (str (t.data.toList.take 40)) w hdm
  rw [str_toList, herr] at c2
  obtain ⟨k', hD, hk', hk1', hk2', hto, hpl, r1, r2, r3⟩ := send_safe _ _ herr; obtain ⟨q1, q2⟩ := recsF_ok _ _ _ _ r1
  have hkk : k' = k := by rw [len_list] at hk'; omega
  subst hkk
  have c3 := fun w => carried_any d (rplR d.data.toList (sendTo d.data.toList (t.data.toList.take 40)) (heldS d.data.toList).cap (liveL d.data.toList)) k' w hds hk2 q2 q1
  rw [← hpl, r2 []] at c3
  have hlet : sendLet d.data.toList (t.data.toList.take 40) = letL (heldS d.data.toList) (t.data.toList.take 40) := by rw [sendLet, if_pos herr]
  rw [hlet] at c2
  have hlen : (letL (heldS d.data.toList) (t.data.toList.take 40)).length = 15 + (t.data.toList.take 40).length := by rw [letL, List.length_append, headB_length, sealL_length]; omega
  have hne : (str (letL (heldS d.data.toList) (t.data.toList.take 40))).toList.isEmpty = false := by
    rw [Lib.toList_data, str_toList]
    cases hq : letL (heldS d.data.toList) (t.data.toList.take 40) with
    | nil => rw [hq, List.length_nil] at hlen; omega
    | cons x y => rfl
  have HC : Hid (ltC (⟨letL (heldS d.data.toList) (t.data.toList.take 40), t.data.toList.take 40, st, 0, 0, 0, false⟩ : LtM) = [.string (str (letL (heldS d.data.toList) (t.data.toList.take 40))), .string (str (t.data.toList.take 40)), .int .i64 st, .int .i64 0, .int .i64 0, .int .i64 0, .bool false]) := rfl
  have HPU : Hid (ltsC (L ++ [(⟨letL (heldS d.data.toList) (t.data.toList.take 40), t.data.toList.take 40, st, 0, 0, 0, false⟩ : LtM)]) = ltsC L ++ ltC (⟨letL (heldS d.data.toList) (t.data.toList.take 40), t.data.toList.take 40, st, 0, 0, 0, false⟩ : LtM) ∧ (L ++ [(⟨letL (heldS d.data.toList) (t.data.toList.take 40), t.data.toList.take 40, st, 0, 0, 0, false⟩ : LtM)]).length = L.length + 1) := ⟨ltsC_push _ _, by rw [List.length_append]; rfl⟩
  generalize ltsC (L ++ [(⟨letL (heldS d.data.toList) (t.data.toList.take 40), t.data.toList.take 40, st, 0, 0, 0, false⟩ : LtM)]) = newsC at *
  generalize (L ++ [(⟨letL (heldS d.data.toList) (t.data.toList.take 40), t.data.toList.take 40, st, 0, 0, 0, false⟩ : LtM)]).length = newsN at *
  generalize ltC (⟨letL (heldS d.data.toList) (t.data.toList.take 40), t.data.toList.take 40, st, 0, 0, 0, false⟩ : LtM) = newC at *
  generalize str (letL (heldS d.data.toList) (t.data.toList.take 40)) = lt at *
  generalize str (sendTo d.data.toList (t.data.toList.take 40)) = tt at *
  generalize str (sendPlan d.data.toList (t.data.toList.take 40)) = pl at *
  generalize str (t.data.toList.take 40) = tx at *
  have hs1 : ((st : Int) == 0) = false := by rw [beq_eq_false_iff_ne]; omega
  have hs2 : ((st : Int) == 30) = false := by rw [beq_eq_false_iff_ne]; omega
  clear hlet hlen hto hpl r1 r2 r3 q1 q2 hD hk' hk1' hk2' herr hg hdm; have HPL := hid hP; have HROW := hid hrow
  have hPlt : P < w.heap.size := by omega
  have k11 : w.cell? ⟨P, 11, none⟩ = some (.slice xv L.length xc) := cell_of_row w _ 11 _ _ _ hP; have k0 : w.cell? ⟨P, 0, none⟩ = some (.string d) := cell_of_row w _ 0 _ _ _ hP; clear hP hrow
  go_enter Try.func8, Try.ntmps8
  go_wp2
  go_loopg [7, 8] 1000000 (fun g n c wr => ∃ j : Nat, n = .int .i64 (ofStepN (L.take j) st : Nat) ∧ c = .int .i64 j ∧ j ≤ L.length ∧ g + j = 1000000 ∧ wr = w)
  case atStart => exact ⟨0, rfl, rfl, Nat.zero_le _, rfl, rfl⟩
  case round =>
    obtain ⟨j, rfl, rfl, hj, hgj, rfl⟩ := hrel; have hle := ofStepN_le L st j
    by_cases hlt : j < L.length
    · obtain ⟨g, cap, hv, hgb, _, _, c2', _, _⟩ := ltRow HROW.out hlt
      injection hv with v1 v2 v3
      subst v1 v3
      have hjl : (j : Int) < (L.length : Int) := by omega
      have hj0 : (0 : Int) ≤ (j : Int) := by omega
      have HN := ofStepN_push L st j hlt
      by_cases he : (L.getD j ltZ).step = st
      · rw [if_pos he] at HN
        rw [he] at c2'
        have HN2 : Hid (ofStepN (L.take (j + 1)) st = ofStepN (L.take j) st + 1) := HN
        generalize ofStepN (L.take j) st = nn at *
        clear HN he c1 c2 c3; go_wp2
        go_roundg (gk - 1)
        case measure => omega
        case rel => exact ⟨j + 1, by rw [HN2.out]; simp, by simp, by omega, by omega, rfl⟩
      · rw [if_neg he] at HN
        have heI : (((L.getD j ltZ).step : Int) == (st : Int)) = false := by rw [beq_eq_false_iff_ne]; omega
        have heI2 : ¬ ((L.getD j ltZ).step : Int) = (st : Int) := by omega
        have HN2 : Hid (ofStepN (L.take (j + 1)) st = ofStepN (L.take j) st) := HN
        generalize ofStepN (L.take j) st = nn at *
        generalize (L.getD j ltZ).step = es at *
        clear HN he c1 c2 c3; go_wp2
        go_roundg (gk - 1)
        case measure => omega
        case rel => exact ⟨j + 1, by rw [HN2.out], by simp, by omega, by omega, rfl⟩
    · obtain rfl : j = L.length := by omega
      have hjl : ¬ (L.length : Int) < (L.length : Int) := by omega
      rw [List.take_length] at *
      have hn50 : ((ofStepN L st : Int) == 50) = false := by rw [beq_eq_false_iff_ne]; omega
      generalize ofStepN L st = nn at *
      go_upto_region 14 with (first | (go_at_call 23; go_must (with_reducible refine (c1 _).mono ?_); rintro e w' ⟨rfl, hw⟩; rw [hw]; clear hw w') | (go_at_call 24; (with_reducible refine (c2 _).mono ?_); rintro e w5 ⟨rfl, hb5⟩; have y0 : w5.cell? ⟨P, 0, none⟩ = some (.string d) := cell_of_row w5 _ 0 _ _ _ ((hb5.block P hPlt).trans HPL.out)) | (go_at_call 25; (with_reducible refine (c3 _).mono ?_); rintro e w6 ⟨rfl, hb6⟩))
      have hsz6 := Nat.le_trans hb5.size hb6.size
      have hP6 := (hb6.block P (by have := hb5.size; omega)).trans ((hb5.block P hPlt).trans HPL.out)
      have hrow6 := ownsRow_below (ownsRow_below HROW.out hb5) hb6
      have HON : Hid (Only (fun b => b = P ∨ (Value.slice xv L.length xc).ownBlock = some b) _ w6) := (Only.of_below hb5).then hb6
      have z11 : w6.cell? ⟨P, 11, none⟩ = some (.slice xv L.length xc) := cell_of_row w6 _ 11 _ _ _ hP6; have HP6 := hid hP6; clear y0 k0 k11 hb5 hb6 c1 c2 c3 hP6
      go_upto_region 15 with (first | (at_builtin; go_loud (refine wpList_append_lies _ rfl (.tmp 81) (.tmp 86) _ rfl base 63 i0 _ 7 72 Try.underlying39 hi0 hz0 hz1 hz2 rfl (by omega) _ L.length (ltsC L) rfl (hrow6.alloc _) ⟨w6.heap.size, 0, none⟩ 1 1 [.string lt, .string tx, .int .i64 st, .int .i64 0, .int .i64 0, .int .i64 0, .bool false] rfl rfl (World.news_of_block (cs := #[.string lt, .string tx, .int .i64 st, .int .i64 0, .int .i64 0, .int .i64 0, .bool false]) (t := 63) (fr := (0, 0)) (heap_alloc_new _ _)) (by simp [Value.oneCell']) (by omega) (by unfold maxLen; omega) (by omega) (by simp; omega) (w6.heap.size + 1) (by simp) ?_); intro g2 cap2 w7 hown7 hgrow hat hlt7; have hP7 := (grown_block (hrow6.alloc _) hgrow hPb (by simp; omega)).trans ((Below.heap_alloc _ _ _ (by omega)).trans HP6.out); have y11 : w7.cell? ⟨P, 11, none⟩ = some (.slice xv L.length xc) := cell_of_row w7 _ 11 _ _ _ hP7; have fB : ∀ j, w7.frozen? ⟨P, j, none⟩ = false := fun j => frozen_of_row w7 _ j _ _ hP7; have HP7 := hid hP7; clear hP7))
      have HON7 : Hid (Only (fun b => b = P ∨ (Value.slice xv L.length xc).ownBlock = some b) _ w7) := (HON.out.then ((Below.refl _ _).alloc (Nat.le_refl _) _)).grown hgrow (fun k hk _ => .inr hk)
      have hX8 : (w7.setCell ⟨P, 11, none⟩ (.slice (some ⟨g2, 0, none⟩) (L.length + 1) cap2)).heap[P]? = some (.cells #[.string d, b1, b2, b3, b4, b5, b6, b7, b8, b9, b10, .slice (some ⟨g2, 0, none⟩) (L.length + 1) cap2] 41) := heap_setCell_same _ _ _ _ _ _ HP7.out
      have hO8 : (w7.setCell ⟨P, 11, none⟩ (.slice (some ⟨g2, 0, none⟩) (L.length + 1) cap2)).ownsRow base 63 7 (.slice (some ⟨g2, 0, none⟩) (L.length + 1) cap2) (L.length + 1) (ltsC L ++ [.string lt, .string tx, .int .i64 st, .int .i64 0, .int .i64 0, .int .i64 0, .bool false]) := ownsRow_setCell_below hown7 (by exact hPb) _
      have hN8 : Only (fun b => b = P ∨ (Value.slice xv L.length xc).ownBlock = some b) _ (w7.setCell ⟨P, 11, none⟩ (.slice (some ⟨g2, 0, none⟩) (L.length + 1) cap2)) := HON7.out.set (b := P) (.inl rfl) _
      clear y11 fB
      generalize (w7.setCell ⟨P, 11, none⟩ (.slice (some ⟨g2, 0, none⟩) (L.length + 1) cap2)) = w8 at hX8 hO8 hN8 ⊢
      have HX8 := hid hX8; have HO8 := hid hO8; have HN8 := hid hN8; have u0 : w8.cell? ⟨P, 0, none⟩ = some (.string d) := cell_of_row w8 _ 0 _ _ _ hX8
      have fU : ∀ j, w8.frozen? ⟨P, j, none⟩ = false := fun j => frozen_of_row w8 _ j _ _ hX8
      have HAT := hid hat; clear hX8 hO8 hN8 hown7 hgrow hat HP6 HON z11 hrow6; go_wp2; go_ret
      refine ⟨rfl, some ⟨g2, 0, none⟩, L.length + 1, cap2, heap_setCell_same _ _ _ _ _ _ HX8.out, ?_, HN8.out.set (b := P) (.inl rfl) _, fun b hb => ?_⟩
      · rw [HPU.out.1, HPU.out.2, HC.out]
        exact ownsRow_setCell_below HO8.out (by exact hPb) _
      · have hb' : g2 = b := Option.some.inj hb; rw [← hb']
        rcases HAT.out with h9 | h9
        · exact .inl h9
        · exact .inr (by omega)
end Go.Proofs.Ytabpkohcimiceab
namespace Go.Proofs.Ytabpkohcimiceab
set_option maxRecDepth 100000
set_option maxHeartbeats 1000000
open Go.RowKit
set_option linter.unusedVariables false
set_option linter.unusedSimpArgs false
theorem arrives_ok (P Q base : Nat) (d dq : ByteArray) (b1 b2 b3 b4 b5 b6 b7 b8 b9 b10 e1 e2 e3 e4 e5 e6 e7 e8 e9 e10 pl : Value) (xv : Option Addr) (xn xc : Nat) (L : List LtM) (i : Nat) (draw : Int) (k : Nat) (w : World) (hP : w.heap[P]? = some (.cells #[.string d, b1, b2, b3, b4, b5, b6, b7, b8, b9, b10, pl] 41)) (hQ : w.heap[Q]? = some (.cells #[.string dq, e1, e2, e3, e4, e5, e6, e7, e8, e9, e10, .slice xv xn xc] 41)) (hrow : w.ownsRow base 63 7 (.slice xv xn xc) L.length (ltsC L)) (hPb : P < base) (hQb : Q < base) (hPQ : P ≠ Q) (hbase : base ≤ w.heap.size) (hL : L.length ≤ 100000) (hi : i < L.length) (hbs : (L.getD i ltZ).bytes.length ≤ 1000) (hg : GoodD d.data.toList k) (hout : (L.getD i ltZ).out = false) (hs : Sec draw) (herr : recvErr d.data.toList (L.getD i ltZ).bytes draw = 0) (htxt : recvTxt d.data.toList (L.getD i ltZ).bytes draw = (L.getD i ltZ).text) :
    Calls Try.prog 9 #[.pointer (some ⟨P, 0, none⟩), .pointer (some ⟨Q, 0, none⟩), .int .i64 i, .int .i64 draw] w fun e w' => e = .returned (.bool true) ∧ w'.heap[P]? = some (.cells #[.string (str (recvTo d.data.toList (L.getD i ltZ).bytes draw)), b1, b2, b3, b4, b5, b6, b7, b8, b9, b10, pl] 41) ∧ w'.heap[Q]? = some (.cells #[.string dq, e1, e2, e3, e4, e5, e6, e7, e8, e9, e10, .slice xv xn xc] 41) ∧ w'.ownsRow base 63 7 (.slice xv xn xc) (L.set i { (L.getD i ltZ) with out := true }).length (ltsC (L.set i { (L.getD i ltZ) with out := true })) ∧ Only (fun b => b = P ∨ (Value.slice xv xn xc).ownBlock = some b) w w' := by
  have hds : d.size = k * 32 := by rw [← len_list]; exact hg.len
  have hk2 := hg.k2
  have hdm : d.size ≤ maxLen := by unfold maxLen; omega
  have hbm : (str (L.getD i ltZ).bytes).size ≤ maxLen := by rw [str_size]; unfold maxLen; omega
  obtain ⟨g, cap, hxv, hgb, z0, z1, z2, z6, zf⟩ := ltRow hrow hi
  injection hxv with x1 x2 x3
  subst x1 x2 x3
  have hiL : (i : Int) < (L.length : Int) := by omega
  have hi0 : (0 : Int) ≤ (i : Int) := by omega
  have hgP : g ≠ P := by omega
  have hgQ : g ≠ Q := by omega
  have hglt : g < w.heap.size := (hrow.lt g rfl).2
  have hPlt : P < w.heap.size := by omega
  have hQlt : Q < w.heap.size := by omega
  have c1 := fun w => pawlReceive_any d (str (L.getD i ltZ).bytes) draw w hdm hbm
  rw [str_toList, herr, htxt] at c1
  obtain ⟨k', hD, hk', hk1', hk2', hto, hpl, r1, r2, r3⟩ := recv_safe _ _ _ herr; obtain ⟨q1, q2⟩ := recsF_ok _ _ _ _ r1
  have hkk : k' = k := by rw [len_list] at hk'; omega
  subst hkk
  have c3 := fun w => carried_any d (rplR d.data.toList (recvTo d.data.toList (L.getD i ltZ).bytes draw) (heldS d.data.toList).cap (liveL d.data.toList)) k' w hds hk2 q2 q1
  rw [← hpl, r2 []] at c3
  have HSET : Hid ((ltsC L).set (i * 7 + 6) (.bool true) = ltsC (L.set i { (L.getD i ltZ) with out := true }) ∧ (L.set i { (L.getD i ltZ) with out := true }).length = L.length) := ⟨ltsC_set L i hi, List.length_set⟩
  rw [hout] at z6
  have HP := hid hP; have HQ := hid hQ; have HROW := hid hrow; have k0 : w.cell? ⟨P, 0, none⟩ = some (.string d) := cell_of_row w _ 0 _ _ _ hP; have k11 : w.cell? ⟨Q, 11, none⟩ = some (.slice (some ⟨g, 0, none⟩) L.length xc) := cell_of_row w _ 11 _ _ _ hQ; have HI : Hid (i < L.length) := hi
  generalize ltsC (L.set i { (L.getD i ltZ) with out := true }) = setC at *
  generalize (L.set i { (L.getD i ltZ) with out := true }).length = setN at *
  generalize str (recvTo d.data.toList (L.getD i ltZ).bytes draw) = tt at *
  generalize str (recvPlan d.data.toList (L.getD i ltZ).bytes draw) = pn at *
  generalize str (L.getD i ltZ).bytes = by0 at *
  generalize str (L.getD i ltZ).text = tx at *
  clear hto hpl r1 r2 r3 q1 q2 hD hk' hk1' hk2' herr htxt hg hdm hbm hout hs hP hQ hrow hbs z2
  go_enter Try.func9, Try.ntmps9
  go_upto_region 1 with fail
  go_cut [9, 10, 11] (fun x y z wx => x = .string tx ∧ y = .string pn ∧ z = .int .i64 0 ∧ Below w.heap.size w wx)
  case first =>
    go_region_held3 (fun w' => w'.cell? ⟨P, 0, none⟩ = some (.string d) ∧ w'.cell? ⟨Q, 11, none⟩ = some (.slice (some ⟨g, 0, none⟩) L.length xc) ∧ w'.cell? ⟨g, i * 7, none⟩ = some (.string by0)) (first | (simp [k0, k11, z0]; done) | (simp [g0, g11, gz]; done)) (first | (go_at_call 26; go_must (with_reducible refine (c1 _).mono ?_); rintro e w1 ⟨rfl, hb1⟩; have hb1' : Below w.heap.size w w1 := ⟨hb1.os, hb1.tape, hb1.output, hb1.size, hb1.block⟩; have g0 : w1.cell? ⟨P, 0, none⟩ = some (.string d) := cell_of_row w1 _ 0 _ _ _ ((hb1'.block P hPlt).trans HP.out); have g11 : w1.cell? ⟨Q, 11, none⟩ = some (.slice (some ⟨g, 0, none⟩) L.length xc) := cell_of_row w1 _ 11 _ _ _ ((hb1'.block Q hQlt).trans HQ.out); have gz : w1.cell? ⟨g, i * 7, none⟩ = some (.string by0) := (hb1'.cell (p := ⟨g, i * 7, none⟩) hglt).trans z0))
    all_goals (go_wp2_with fail)
    all_goals go_meet
    all_goals exact ⟨rfl, rfl, rfl, ⟨hb1'.os, hb1'.tape, hb1'.output, hb1'.size, hb1'.block⟩⟩
  case rest =>
    obtain ⟨rfl, rfl, rfl, hb1⟩ := hcut; have hsz1 := hb1.size; have hP1 := (hb1.block P hPlt).trans HP.out; have hQ1 := (hb1.block Q hQlt).trans HQ.out; have hr1 := ownsRow_below HROW.out hb1
    have HN1 : Hid (Only (fun b => b = P ∨ (Value.slice (some ⟨g, 0, none⟩) L.length xc).ownBlock = some b) w wc) := Only.of_below hb1
    have y0 : wc.cell? ⟨P, 0, none⟩ = some (.string d) := cell_of_row wc _ 0 _ _ _ hP1; have y11 : wc.cell? ⟨Q, 11, none⟩ = some (.slice (some ⟨g, 0, none⟩) L.length xc) := cell_of_row wc _ 11 _ _ _ hQ1; have y6 : wc.cell? ⟨g, i * 7 + 6, none⟩ = some (.bool false) := (hb1.cell (p := ⟨g, i * 7 + 6, none⟩) hglt).trans z6; have y1 : wc.cell? ⟨g, i * 7 + 1, none⟩ = some (.string tx) := (hb1.cell (p := ⟨g, i * 7 + 1, none⟩) hglt).trans z1; have HP1 := hid hP1; have HQ1 := hid hQ1; have HR1 := hid hr1; clear k0 k11 z0 z1 z6 hb1 hP1 hQ1 hr1 c1
    go_upto_region 5 with (first | (go_at_call 25; (with_reducible refine (c3 _).mono ?_); rintro e w5 ⟨rfl, hb5⟩))
    have hsz5 := hb5.size
    have hP5 := (hb5.block P (by omega)).trans HP1.out
    have hQ5 := (hb5.block Q (by omega)).trans HQ1.out
    have hr5 := ownsRow_below HR1.out hb5
    have HN5 : Hid (Only (fun b => b = P ∨ (Value.slice (some ⟨g, 0, none⟩) L.length xc).ownBlock = some b) w w5) := HN1.out.then hb5
    have u11 : w5.cell? ⟨Q, 11, none⟩ = some (.slice (some ⟨g, 0, none⟩) L.length xc) := cell_of_row w5 _ 11 _ _ _ hQ5
    have u1 : w5.cell? ⟨g, i * 7 + 1, none⟩ = some (.string tx) := (hb5.cell (p := ⟨g, i * 7 + 1, none⟩) (by show g < wc.heap.size; omega)).trans y1
    have u6 : w5.cell? ⟨g, i * 7 + 6, none⟩ = some (.bool false) := (hb5.cell (p := ⟨g, i * 7 + 6, none⟩) (by show g < wc.heap.size; omega)).trans y6
    have fG : ∀ j, w5.frozen? ⟨g, j, none⟩ = false := fun j => hr5.frozenAt j
    have HP5 := hid hP5; have HQ5 := hid hQ5; have HR5 := hid hr5; clear y0 y11 y6 y1 hP5 hQ5 hr5 hb5 HP1 HQ1 HR1 HN1 c3
    go_upto_region 8 with fail
    have hP6 := (heap_setCell_other w5 ⟨g, i * 7 + 6, none⟩ (P) (.bool true) (by show P ≠ g; omega)).trans HP5.out
    have hQ6 := (heap_setCell_other w5 ⟨g, i * 7 + 6, none⟩ (Q) (.bool true) (by show Q ≠ g; omega)).trans HQ5.out
    have hR6 : (w5.setCell ⟨g, i * 7 + 6, none⟩ (.bool true)).ownsRow base 63 7 (.slice (some ⟨g, 0, none⟩) L.length xc) L.length ((ltsC L).set (i * 7 + 6) (.bool true)) := (HR5.out.stored _ _).1
    have hN6 : Only (fun b => b = P ∨ (Value.slice (some ⟨g, 0, none⟩) L.length xc).ownBlock = some b) w (w5.setCell ⟨g, i * 7 + 6, none⟩ (.bool true)) := HN5.out.set (b := g) (.inr rfl) _
    clear u11 u1 u6 fG
    generalize (w5.setCell ⟨g, i * 7 + 6, none⟩ (.bool true)) = w6 at hP6 hQ6 hR6 hN6 ⊢
    have v0 : w6.cell? ⟨P, 0, none⟩ = some (.string d) := cell_of_row w6 _ 0 _ _ _ hP6
    have fP : ∀ j, w6.frozen? ⟨P, j, none⟩ = false := fun j => frozen_of_row w6 _ j _ _ hP6
    have HP6 := hid hP6; have HQ6 := hid hQ6; have HR6 := hid hR6; have HN6 := hid hN6; clear hP6 hQ6 hR6 hN6 HP5 HQ5 HR5 HN5; go_wp2; go_ret
    refine ⟨rfl, heap_setCell_same _ _ _ _ _ _ HP6.out, (heap_setCell_other _ _ _ _ (by show Q ≠ P; omega)).trans HQ6.out, ?_, HN6.out.set (b := P) (.inl rfl) _⟩
    rw [← HSET.out.1, HSET.out.2]
    exact ownsRow_setCell_below HR6.out (by exact hPb) _
theorem arrives_gone (P Q base : Nat) (d dq : ByteArray) (b1 b2 b3 b4 b5 b6 b7 b8 b9 b10 e1 e2 e3 e4 e5 e6 e7 e8 e9 e10 pl : Value) (xv : Option Addr) (xn xc : Nat) (L : List LtM) (i : Nat) (draw : Int) (k : Nat) (w : World) (hP : w.heap[P]? = some (.cells #[.string d, b1, b2, b3, b4, b5, b6, b7, b8, b9, b10, pl] 41)) (hQ : w.heap[Q]? = some (.cells #[.string dq, e1, e2, e3, e4, e5, e6, e7, e8, e9, e10, .slice xv xn xc] 41)) (hrow : w.ownsRow base 63 7 (.slice xv xn xc) L.length (ltsC L)) (hPb : P < base) (hQb : Q < base) (hPQ : P ≠ Q) (hbase : base ≤ w.heap.size) (hL : L.length ≤ 100000) (hi : i < L.length) (hbs : (L.getD i ltZ).bytes.length ≤ 1000) (hg : GoodD d.data.toList k) (hout : (L.getD i ltZ).out = true) (herr : recvErr d.data.toList (L.getD i ltZ).bytes draw = 16) :
    Calls Try.prog 9 #[.pointer (some ⟨P, 0, none⟩), .pointer (some ⟨Q, 0, none⟩), .int .i64 i, .int .i64 draw] w fun e w' => e = .returned (.bool true) ∧ Below w.heap.size w w' := by
  have hds : d.size = k * 32 := by rw [← len_list]; exact hg.len
  have hk2 := hg.k2
  have hdm : d.size ≤ maxLen := by unfold maxLen; omega
  have hbm : (str (L.getD i ltZ).bytes).size ≤ maxLen := by rw [str_size]; unfold maxLen; omega
  obtain ⟨g, cap, hxv, hgb, z0, z1, z2, z6, zf⟩ := ltRow hrow hi
  injection hxv with x1 x2 x3
  subst x1 x2 x3
  have hiL : (i : Int) < (L.length : Int) := by omega
  have hi0 : (0 : Int) ≤ (i : Int) := by omega
  have hgP : g ≠ P := by omega
  have hgQ : g ≠ Q := by omega
  have hglt : g < w.heap.size := (hrow.lt g rfl).2
  have hPlt : P < w.heap.size := by omega
  have hQlt : Q < w.heap.size := by omega
  have c1 := fun w => pawlReceive_any d (str (L.getD i ltZ).bytes) draw w hdm hbm
  have t1 : recvTxt d.data.toList (L.getD i ltZ).bytes draw = [] := by rw [recvTxt, if_neg (by rw [herr]; decide)]
  have t2 : recvPlan d.data.toList (L.getD i ltZ).bytes draw = [] := by rw [recvPlan, if_neg (by rw [herr]; decide)]
  rw [str_toList, herr, t1, t2] at c1
  have c1' : ∀ w, Calls Try.prog 26 #[.string d, .string (str (L.getD i ltZ).bytes), .int .i64 draw] w fun e w' => e = .returned (.tuple #[.string ⟨#[]⟩, .string ⟨#[]⟩, .int .i64 16]) ∧ Below w.heap.size w w' := c1
  rw [hout] at z6
  have HP := hid hP; have HQ := hid hQ; have HROW := hid hrow; have k0 : w.cell? ⟨P, 0, none⟩ = some (.string d) := cell_of_row w _ 0 _ _ _ hP; have k11 : w.cell? ⟨Q, 11, none⟩ = some (.slice (some ⟨g, 0, none⟩) L.length xc) := cell_of_row w _ 11 _ _ _ hQ; have HI : Hid (i < L.length) := hi; clear c1 t1 t2; have c1 := c1'; clear c1'
  generalize str (L.getD i ltZ).bytes = by0 at *
  generalize str (L.getD i ltZ).text = tx at *
  clear herr hg hdm hbm hout hP hQ hrow hbs z2 z1
  go_enter Try.func9, Try.ntmps9
  go_upto_region 1 with fail
  go_cut [9, 10, 11] (fun x y z wx => x = .string ⟨#[]⟩ ∧ y = .string ⟨#[]⟩ ∧ z = .int .i64 16 ∧ Below w.heap.size w wx)
  case first =>
    go_region_held3 (fun w' => w'.cell? ⟨P, 0, none⟩ = some (.string d) ∧ w'.cell? ⟨Q, 11, none⟩ = some (.slice (some ⟨g, 0, none⟩) L.length xc) ∧ w'.cell? ⟨g, i * 7, none⟩ = some (.string by0)) (first | (simp [k0, k11, z0]; done) | (simp [g0, g11, gz]; done)) (first | (go_at_call 26; go_must (with_reducible refine (c1 _).mono ?_); rintro e w1 ⟨rfl, hb1⟩; have hb1' : Below w.heap.size w w1 := ⟨hb1.os, hb1.tape, hb1.output, hb1.size, hb1.block⟩; have g0 : w1.cell? ⟨P, 0, none⟩ = some (.string d) := cell_of_row w1 _ 0 _ _ _ ((hb1'.block P hPlt).trans HP.out); have g11 : w1.cell? ⟨Q, 11, none⟩ = some (.slice (some ⟨g, 0, none⟩) L.length xc) := cell_of_row w1 _ 11 _ _ _ ((hb1'.block Q hQlt).trans HQ.out); have gz : w1.cell? ⟨g, i * 7, none⟩ = some (.string by0) := (hb1'.cell (p := ⟨g, i * 7, none⟩) hglt).trans z0))
    all_goals (go_wp2_with fail)
    all_goals go_meet
    all_goals exact ⟨rfl, rfl, rfl, ⟨hb1'.os, hb1'.tape, hb1'.output, hb1'.size, hb1'.block⟩⟩
  case rest =>
    obtain ⟨rfl, rfl, rfl, hb1⟩ := hcut; have y11 : wc.cell? ⟨Q, 11, none⟩ = some (.slice (some ⟨g, 0, none⟩) L.length xc) := cell_of_row wc _ 11 _ _ _ ((hb1.block Q hQlt).trans HQ.out); have y6 : wc.cell? ⟨g, i * 7 + 6, none⟩ = some (.bool true) := (hb1.cell (p := ⟨g, i * 7 + 6, none⟩) hglt).trans z6; have HB := hid hb1; clear k0 k11 z0 z6 hb1 c1; go_wp2; go_ret; exact ⟨rfl, HB.out⟩
end Go.Proofs.Ytabpkohcimiceab
