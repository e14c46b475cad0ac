import Derived.Test.YtabpkohcimiceabAgrX
namespace Go.Proofs.Ytabpkohcimiceab
set_option maxRecDepth 100000
set_option maxHeartbeats 1000000
open Go.RowKit
set_option linter.unusedVariables false
set_option linter.unusedSimpArgs false
attribute [local go_sem] wrap_ub ofNat_ub str_one_size
theorem creA_ok (u0 u1 u2 u3 u4 u5 u6 : Int) (u7 : ByteArray) (ca : Nat) (h : pickN u1 31 = (ca : Int)) : ca ≤ 30 ∧ creErr (List.replicate (blankK ca u6 * 32) (0 : UInt8)) 0 (pickN u0 13) (ca : Int) (shOut (secN u5) 7) (sizedL u7.data.toList 8) (secN u4) = 0 := by
  obtain ⟨sk0, sk1⟩ := pickN_bd u0 13 (by omega)
  obtain ⟨cp0, cp1⟩ := pickN_bd u1 31 (by omega)
  obtain ⟨rm0, rm1⟩ := pickN_bd u6 4 (by omega)
  have hsec := secN_sec u4
  have hpub : Pub (shOut (secN u5) 7) := by
    obtain ⟨_, _, _, _, _, _, _, q1, q2⟩ := agree_facts (secN u5) (secN u5) (secN_sec _) (secN_sec _)
    unfold Pub; omega
  have hcpb : ca ≤ 30 := by omega
  obtain ⟨hh1, hh2, _⟩ := halfN_le ca hcpb; have hbk : blankK ca u6 = 1 + 2 * halfN ca + (pickN u6 4).toNat := rfl
  refine ⟨hcpb, ?_⟩
  rw [creErr, if_pos (disk_of_len _ (blankK ca u6) List.length_replicate (by omega) (by omega)), if_pos, if_pos (sizedL_length _ _), List.length_replicate, Int.toNat_natCast, if_neg (by omega), if_pos rfl]
  exact ⟨hsec, ⟨by omega, by omega, by omega, by omega⟩, .inl ⟨rfl, hpub⟩⟩
theorem creB_ok (u0 u1 u2 u3 u4 u5 u6 : Int) (u7 : ByteArray) (cb : Nat) (h : pickN u3 31 = (cb : Int)) : cb ≤ 30 ∧ creErr (List.replicate (blankK cb u6 * 32) (0 : UInt8)) 1 (pickN u2 13) (cb : Int) 0 (sizedL u7.data.toList 8) (secN u5) = 0 := by
  obtain ⟨sk0, sk1⟩ := pickN_bd u2 13 (by omega)
  obtain ⟨cp0, cp1⟩ := pickN_bd u3 31 (by omega)
  obtain ⟨rm0, rm1⟩ := pickN_bd u6 4 (by omega)
  have hsec := secN_sec u5
  have hcpb : cb ≤ 30 := by omega
  obtain ⟨hh1, hh2, _⟩ := halfN_le cb hcpb; have hbk : blankK cb u6 = 1 + 2 * halfN cb + (pickN u6 4).toNat := rfl
  refine ⟨hcpb, ?_⟩
  rw [creErr, if_pos (disk_of_len _ (blankK cb u6) List.length_replicate (by omega) (by omega)), if_pos, if_pos (sizedL_length _ _), List.length_replicate, Int.toNat_natCast, if_neg (by omega), if_pos rfl]
  exact ⟨hsec, ⟨by omega, by omega, by omega, by omega⟩, .inr ⟨rfl, rfl⟩⟩
theorem keepBoth_any (u0 u1 u2 u3 u4 u5 u6 : Int) (u7 : ByteArray) (ca cb : Nat) (w : World) (h0 : (-9223372036854775808 ≤ u0 ∧ u0 ≤ 9223372036854775807)) (h1 : (-9223372036854775808 ≤ u1 ∧ u1 ≤ 9223372036854775807)) (h2 : (-9223372036854775808 ≤ u2 ∧ u2 ≤ 9223372036854775807)) (h3 : (-9223372036854775808 ≤ u3 ∧ u3 ≤ 9223372036854775807)) (h4 : (-9223372036854775808 ≤ u4 ∧ u4 ≤ 9223372036854775807)) (h5 : (-9223372036854775808 ≤ u5 ∧ u5 ≤ 9223372036854775807)) (h6 : (-9223372036854775808 ≤ u6 ∧ u6 ≤ 9223372036854775807)) (h7 : u7.size ≤ maxLen) (hca : pickN u1 31 = (ca : Int)) (hcb : pickN u3 31 = (cb : Int)) :
    Calls Try.prog 22 #[.agg #[.int .i64 u0, .int .i64 u1, .int .i64 u2, .int .i64 u3, .int .i64 u4, .int .i64 u5, .int .i64 u6, .string u7]] w fun e w' => e = .returned (.tuple #[.string (str (creTo (List.replicate (blankK ca u6 * 32) (0 : UInt8)) 0 (pickN u0 13) (ca : Int) (shOut (secN u5) 7) (sizedL u7.data.toList 8) (secN u4))), .string (str (creTo (List.replicate (blankK cb u6 * 32) (0 : UInt8)) 1 (pickN u2 13) (cb : Int) 0 (sizedL u7.data.toList 8) (secN u5))), .bool true]) ∧ Below w.heap.size w w' := by
  have c0 := fun w => configs_any u0 u1 u2 u3 u4 u5 u6 u7 w h0 h1 h2 h3 h5
  rw [hca, hcb] at c0
  obtain ⟨ha1, ha2⟩ := creA_ok u0 u1 u2 u3 u4 u5 u6 u7 ca hca; obtain ⟨hb1, hb2⟩ := creB_ok u0 u1 u2 u3 u4 u5 u6 u7 cb hcb
  have c1 := fun w => made_any u0 u1 u2 u3 u4 u5 u6 u7 0 (pickN u0 13) (shOut (secN u5) 7) u4 ca w h6 h4 h7 ha1 ha2
  have c2 := fun w => made_any u0 u1 u2 u3 u4 u5 u6 u7 1 (pickN u2 13) 0 u5 cb w h6 h5 h7 hb1 hb2
  generalize (creTo (List.replicate (blankK ca u6 * 32) (0 : UInt8)) 0 (pickN u0 13) (ca : Int) (shOut (secN u5) 7) (sizedL u7.data.toList 8) (secN u4)) = da at *
  generalize (creTo (List.replicate (blankK cb u6 * 32) (0 : UInt8)) 1 (pickN u2 13) (cb : Int) 0 (sizedL u7.data.toList 8) (secN u5)) = db at *
  generalize pickN u0 13 = sa at *
  generalize pickN u2 13 = sb at *
  generalize shOut (secN u5) 7 = pe at *
  have c1' : ∀ w, Calls Try.prog 36 #[.agg #[.int .i64 u0, .int .i64 u1, .int .i64 u2, .int .i64 u3, .int .i64 u4, .int .i64 u5, .int .i64 u6, .string u7], .agg #[.int .i64 0, .int .i64 sa, .int .i64 ca, .int .i64 pe], .int .i64 u4] w fun e w' => e = .returned (.tuple #[.string (str da), .bool true]) ∧ Below w.heap.size w w' := c1
  have c2' : ∀ w, Calls Try.prog 36 #[.agg #[.int .i64 u0, .int .i64 u1, .int .i64 u2, .int .i64 u3, .int .i64 u4, .int .i64 u5, .int .i64 u6, .string u7], .agg #[.int .i64 1, .int .i64 sb, .int .i64 cb, .int .i64 0], .int .i64 u5] w fun e w' => e = .returned (.tuple #[.string (str db), .bool true]) ∧ Below w.heap.size w w' := c2
  clear c1 c2 ha2 hb2 hca hcb; have tok1 : True := trivial
  go_enter Try.func22, Try.ntmps22
  go_upto_region 1 with fail
  obtain ⟨ob, eob⟩ : ∃ ob, ob = Obj.cells #[.int .i64 u0, .int .i64 u1, .int .i64 u2, .int .i64 u3, .int .i64 u4, .int .i64 u5, .int .i64 u6, .string u7] 23 := ⟨_, rfl⟩
  rw [← eob]; have hS := heap_alloc_new w ob; have hW : Below w.heap.size w (w.alloc ob) := (Below.refl _ _).alloc (Nat.le_refl _) _
  have hlt : w.heap.size < (w.alloc ob).heap.size := by simp
  generalize (w.alloc ob) = wa at hS hW hlt ⊢
  subst eob; have HS := hid hS; have HW := hid hW; have k0 : wa.cell? ⟨w.heap.size, 0, none⟩ = some (.int .i64 u0) := cell_of_row wa _ 0 _ _ _ hS; have k1 : wa.cell? ⟨w.heap.size, 1, none⟩ = some (.int .i64 u1) := cell_of_row wa _ 1 _ _ _ hS; have k2 : wa.cell? ⟨w.heap.size, 2, none⟩ = some (.int .i64 u2) := cell_of_row wa _ 2 _ _ _ hS; have k3 : wa.cell? ⟨w.heap.size, 3, none⟩ = some (.int .i64 u3) := cell_of_row wa _ 3 _ _ _ hS; have k4 : wa.cell? ⟨w.heap.size, 4, none⟩ = some (.int .i64 u4) := cell_of_row wa _ 4 _ _ _ hS; have k5 : wa.cell? ⟨w.heap.size, 5, none⟩ = some (.int .i64 u5) := cell_of_row wa _ 5 _ _ _ hS; have k6 : wa.cell? ⟨w.heap.size, 6, none⟩ = some (.int .i64 u6) := cell_of_row wa _ 6 _ _ _ hS; have k7 : wa.cell? ⟨w.heap.size, 7, none⟩ = some (.string u7) := cell_of_row wa _ 7 _ _ _ hS; clear hS hW
  go_upto_region 2 with (first | (go_at_call 21; (with_reducible refine (c0 _).mono ?_); rintro e w1 ⟨rfl, hb1⟩))
  have hsz1 := hb1.size
  have hS1 : ((w1.alloc (.cells #[.int .i64 0, .int .i64 sa, .int .i64 ca, .int .i64 pe] 57)).alloc (.cells #[.int .i64 1, .int .i64 sb, .int .i64 cb, .int .i64 0] 57)).heap[w.heap.size]? = some (.cells #[.int .i64 u0, .int .i64 u1, .int .i64 u2, .int .i64 u3, .int .i64 u4, .int .i64 u5, .int .i64 u6, .string u7] 23) := (Below.heap_alloc _ _ _ (by simp; omega)).trans ((Below.heap_alloc _ _ _ (by omega)).trans ((hb1.block w.heap.size hlt).trans HS.out))
  have hC1 : ((w1.alloc (.cells #[.int .i64 0, .int .i64 sa, .int .i64 ca, .int .i64 pe] 57)).alloc (.cells #[.int .i64 1, .int .i64 sb, .int .i64 cb, .int .i64 0] 57)).heap[w1.heap.size]? = some (.cells #[.int .i64 0, .int .i64 sa, .int .i64 ca, .int .i64 pe] 57) := (Below.heap_alloc _ _ _ (by simp)).trans (heap_alloc_new w1 _)
  have hD1 : ((w1.alloc (.cells #[.int .i64 0, .int .i64 sa, .int .i64 ca, .int .i64 pe] 57)).alloc (.cells #[.int .i64 1, .int .i64 sb, .int .i64 cb, .int .i64 0] 57)).heap[w1.heap.size + 1]? = some (.cells #[.int .i64 1, .int .i64 sb, .int .i64 cb, .int .i64 0] 57) := by
    have := heap_alloc_new (w1.alloc (.cells #[.int .i64 0, .int .i64 sa, .int .i64 ca, .int .i64 pe] 57)) (.cells #[.int .i64 1, .int .i64 sb, .int .i64 cb, .int .i64 0] 57)
    have e : (w1.alloc (.cells #[.int .i64 0, .int .i64 sa, .int .i64 ca, .int .i64 pe] 57)).heap.size = w1.heap.size + 1 := by simp
    rw [e] at this
    exact this
  have hW1 : Below w.heap.size w ((w1.alloc (.cells #[.int .i64 0, .int .i64 sa, .int .i64 ca, .int .i64 pe] 57)).alloc (.cells #[.int .i64 1, .int .i64 sb, .int .i64 cb, .int .i64 0] 57)) := ((below_tr HW.out hb1).alloc (below_tr HW.out hb1).size _).alloc (by have := (below_tr HW.out hb1).size; simp; omega) _
  have hlt1 : w1.heap.size + 1 < ((w1.alloc (.cells #[.int .i64 0, .int .i64 sa, .int .i64 ca, .int .i64 pe] 57)).alloc (.cells #[.int .i64 1, .int .i64 sb, .int .i64 cb, .int .i64 0] 57)).heap.size := by simp
  have hlt2 : w.heap.size < w1.heap.size := by omega
  generalize ((w1.alloc (.cells #[.int .i64 0, .int .i64 sa, .int .i64 ca, .int .i64 pe] 57)).alloc (.cells #[.int .i64 1, .int .i64 sb, .int .i64 cb, .int .i64 0] 57)) = wb at hS1 hC1 hD1 hW1 hlt1 ⊢
  generalize w1.heap.size = C at *
  have HS1 := hid hS1; have HC1 := hid hC1; have HD1 := hid hD1; have HW1 := hid hW1; clear k0 k1 k2 k3 k4 k5 k6 k7 hb1 c0 HS HW hlt hsz1; have k0 : wb.cell? ⟨w.heap.size, 0, none⟩ = some (.int .i64 u0) := cell_of_row wb _ 0 _ _ _ hS1; have k1 : wb.cell? ⟨w.heap.size, 1, none⟩ = some (.int .i64 u1) := cell_of_row wb _ 1 _ _ _ hS1; have k2 : wb.cell? ⟨w.heap.size, 2, none⟩ = some (.int .i64 u2) := cell_of_row wb _ 2 _ _ _ hS1; have k3 : wb.cell? ⟨w.heap.size, 3, none⟩ = some (.int .i64 u3) := cell_of_row wb _ 3 _ _ _ hS1; have k4 : wb.cell? ⟨w.heap.size, 4, none⟩ = some (.int .i64 u4) := cell_of_row wb _ 4 _ _ _ hS1; have k5 : wb.cell? ⟨w.heap.size, 5, none⟩ = some (.int .i64 u5) := cell_of_row wb _ 5 _ _ _ hS1; have k6 : wb.cell? ⟨w.heap.size, 6, none⟩ = some (.int .i64 u6) := cell_of_row wb _ 6 _ _ _ hS1; have k7 : wb.cell? ⟨w.heap.size, 7, none⟩ = some (.string u7) := cell_of_row wb _ 7 _ _ _ hS1; have p0 : wb.cell? ⟨C, 0, none⟩ = some (.int .i64 0) := cell_of_row wb _ 0 _ _ _ hC1; have p1 : wb.cell? ⟨C, 1, none⟩ = some (.int .i64 sa) := cell_of_row wb _ 1 _ _ _ hC1; have p2 : wb.cell? ⟨C, 2, none⟩ = some (.int .i64 ca) := cell_of_row wb _ 2 _ _ _ hC1; have p3 : wb.cell? ⟨C, 3, none⟩ = some (.int .i64 pe) := cell_of_row wb _ 3 _ _ _ hC1; clear hS1 hC1 hD1 hW1
  go_upto_region 7 with (first | (go_at_call 36; have _t := tok1; (with_reducible refine (c1' _).mono ?_); rintro e w2 ⟨rfl, hb2⟩; clear tok1))
  have hsz2 := hb2.size
  have hS2 := (hb2.block w.heap.size (by omega)).trans HS1.out
  have hD2 := (hb2.block (C + 1) hlt1).trans HD1.out; have HW2 : Hid (Below w.heap.size w w2) := below_tr HW1.out hb2; clear k0 k1 k2 k3 k4 k5 k6 k7 p0 p1 p2 p3 hb2; have k0 : w2.cell? ⟨w.heap.size, 0, none⟩ = some (.int .i64 u0) := cell_of_row w2 _ 0 _ _ _ hS2; have k1 : w2.cell? ⟨w.heap.size, 1, none⟩ = some (.int .i64 u1) := cell_of_row w2 _ 1 _ _ _ hS2; have k2 : w2.cell? ⟨w.heap.size, 2, none⟩ = some (.int .i64 u2) := cell_of_row w2 _ 2 _ _ _ hS2; have k3 : w2.cell? ⟨w.heap.size, 3, none⟩ = some (.int .i64 u3) := cell_of_row w2 _ 3 _ _ _ hS2; have k4 : w2.cell? ⟨w.heap.size, 4, none⟩ = some (.int .i64 u4) := cell_of_row w2 _ 4 _ _ _ hS2; have k5 : w2.cell? ⟨w.heap.size, 5, none⟩ = some (.int .i64 u5) := cell_of_row w2 _ 5 _ _ _ hS2; have k6 : w2.cell? ⟨w.heap.size, 6, none⟩ = some (.int .i64 u6) := cell_of_row w2 _ 6 _ _ _ hS2; have k7 : w2.cell? ⟨w.heap.size, 7, none⟩ = some (.string u7) := cell_of_row w2 _ 7 _ _ _ hS2; have p0 : w2.cell? ⟨C + 1, 0, none⟩ = some (.int .i64 1) := cell_of_row w2 _ 0 _ _ _ hD2; have p1 : w2.cell? ⟨C + 1, 1, none⟩ = some (.int .i64 sb) := cell_of_row w2 _ 1 _ _ _ hD2; have p2 : w2.cell? ⟨C + 1, 2, none⟩ = some (.int .i64 cb) := cell_of_row w2 _ 2 _ _ _ hD2; have p3 : w2.cell? ⟨C + 1, 3, none⟩ = some (.int .i64 0) := cell_of_row w2 _ 3 _ _ _ hD2; clear hS2 hD2 HS1 HC1 HD1 HW1
  go_wp2_with (first | (go_at_call 36; (with_reducible refine (c2' _).mono ?_); rintro e w3 ⟨rfl, hb3⟩))
  go_ret3
  exact ⟨rfl, below_tr HW2.out hb3⟩
theorem begun_any (u0 u1 u2 u3 u4 u5 u6 : Int) (u7 : ByteArray) (ca cb : Nat) (w : World) (h0 : (-9223372036854775808 ≤ u0 ∧ u0 ≤ 9223372036854775807)) (h1 : (-9223372036854775808 ≤ u1 ∧ u1 ≤ 9223372036854775807)) (h2 : (-9223372036854775808 ≤ u2 ∧ u2 ≤ 9223372036854775807)) (h3 : (-9223372036854775808 ≤ u3 ∧ u3 ≤ 9223372036854775807)) (h4 : (-9223372036854775808 ≤ u4 ∧ u4 ≤ 9223372036854775807)) (h5 : (-9223372036854775808 ≤ u5 ∧ u5 ≤ 9223372036854775807)) (h6 : (-9223372036854775808 ≤ u6 ∧ u6 ≤ 9223372036854775807)) (h7 : u7.size ≤ maxLen) (hca : pickN u1 31 = (ca : Int)) (hcb : pickN u3 31 = (cb : Int)) :
    Calls Try.prog 7 #[.agg #[.int .i64 u0, .int .i64 u1, .int .i64 u2, .int .i64 u3, .int .i64 u4, .int .i64 u5, .int .i64 u6, .string u7]] w fun e w' => (∃ P Q : Nat, e = .returned (.tuple #[.pointer (some ⟨P, 0, none⟩), .pointer (some ⟨Q, 0, none⟩), .bool true]) ∧ w.heap.size ≤ P ∧ P < Q ∧ Q < w'.heap.size ∧ w'.heap[P]? = some (.cells #[.string (str (creTo (List.replicate (blankK ca u6 * 32) (0 : UInt8)) 0 (pickN u0 13) (ca : Int) (shOut (secN u5) 7) (sizedL u7.data.toList 8) (secN u4))), .int .i64 0, .int .i64 1, .int .i64 0, .int .i64 0, .int .i64 0, .int .i64 (pickN u0 13), .int .i64 ca, .int .i64 (secN u4), .int .i64 (secN u5), .slice none 0 0, .slice none 0 0] 41) ∧ w'.heap[Q]? = some (.cells #[.string (str (creTo (List.replicate (blankK cb u6 * 32) (0 : UInt8)) 1 (pickN u2 13) (cb : Int) 0 (sizedL u7.data.toList 8) (secN u5))), .int .i64 1, .int .i64 0, .int .i64 0, .int .i64 0, .int .i64 0, .int .i64 (pickN u2 13), .int .i64 cb, .int .i64 (secN u5), .int .i64 0, .slice none 0 0, .slice none 0 0] 41)) ∧ Below w.heap.size w w' := by
  have c0 := fun w => configs_any u0 u1 u2 u3 u4 u5 u6 u7 w h0 h1 h2 h3 h5
  rw [hca, hcb] at c0
  have c1 := fun w => keepBoth_any u0 u1 u2 u3 u4 u5 u6 u7 ca cb w h0 h1 h2 h3 h4 h5 h6 h7 hca hcb
  have c3 := fun w => secretOf_any u4 w h4.1 h4.2
  have c4 := fun w => secretOf_any u5 w h5.1 h5.2
  generalize (creTo (List.replicate (blankK ca u6 * 32) (0 : UInt8)) 0 (pickN u0 13) (ca : Int) (shOut (secN u5) 7) (sizedL u7.data.toList 8) (secN u4)) = da at *
  generalize (creTo (List.replicate (blankK cb u6 * 32) (0 : UInt8)) 1 (pickN u2 13) (cb : Int) 0 (sizedL u7.data.toList 8) (secN u5)) = db at *
  generalize pickN u0 13 = sa at *
  generalize pickN u2 13 = sb at *
  generalize shOut (secN u5) 7 = pe at *
  generalize secN u4 = xa at *
  generalize secN u5 = xb at *
  clear hca hcb
  go_enter Try.func7, Try.ntmps7
  go_upto_region 1 with fail
  obtain ⟨ob, eob⟩ : ∃ ob, ob = Obj.cells #[.int .i64 u0, .int .i64 u1, .int .i64 u2, .int .i64 u3, .int .i64 u4, .int .i64 u5, .int .i64 u6, .string u7] 23 := ⟨_, rfl⟩
  rw [← eob]; have hS := heap_alloc_new w ob; have hW : Below w.heap.size w (w.alloc ob) := (Below.refl _ _).alloc (Nat.le_refl _) _
  have hlt : w.heap.size < (w.alloc ob).heap.size := by simp
  generalize (w.alloc ob) = wa at hS hW hlt ⊢
  subst eob; have HS := hid hS; have HW := hid hW; have k0 : wa.cell? ⟨w.heap.size, 0, none⟩ = some (.int .i64 u0) := cell_of_row wa _ 0 _ _ _ hS; have k1 : wa.cell? ⟨w.heap.size, 1, none⟩ = some (.int .i64 u1) := cell_of_row wa _ 1 _ _ _ hS; have k2 : wa.cell? ⟨w.heap.size, 2, none⟩ = some (.int .i64 u2) := cell_of_row wa _ 2 _ _ _ hS; have k3 : wa.cell? ⟨w.heap.size, 3, none⟩ = some (.int .i64 u3) := cell_of_row wa _ 3 _ _ _ hS; have k4 : wa.cell? ⟨w.heap.size, 4, none⟩ = some (.int .i64 u4) := cell_of_row wa _ 4 _ _ _ hS; have k5 : wa.cell? ⟨w.heap.size, 5, none⟩ = some (.int .i64 u5) := cell_of_row wa _ 5 _ _ _ hS; have k6 : wa.cell? ⟨w.heap.size, 6, none⟩ = some (.int .i64 u6) := cell_of_row wa _ 6 _ _ _ hS; have k7 : wa.cell? ⟨w.heap.size, 7, none⟩ = some (.string u7) := cell_of_row wa _ 7 _ _ _ hS; clear hS hW
  go_upto_region 2 with (first | (go_at_call 21; (with_reducible refine (c0 _).mono ?_); rintro e w1 ⟨rfl, hb1⟩))
  have hsz1 := hb1.size
  have hS1 : ((w1.alloc (.cells #[.int .i64 0, .int .i64 sa, .int .i64 ca, .int .i64 pe] 57)).alloc (.cells #[.int .i64 1, .int .i64 sb, .int .i64 cb, .int .i64 0] 57)).heap[w.heap.size]? = some (.cells #[.int .i64 u0, .int .i64 u1, .int .i64 u2, .int .i64 u3, .int .i64 u4, .int .i64 u5, .int .i64 u6, .string u7] 23) := (Below.heap_alloc _ _ _ (by simp; omega)).trans ((Below.heap_alloc _ _ _ (by omega)).trans ((hb1.block w.heap.size hlt).trans HS.out))
  have hC1 : ((w1.alloc (.cells #[.int .i64 0, .int .i64 sa, .int .i64 ca, .int .i64 pe] 57)).alloc (.cells #[.int .i64 1, .int .i64 sb, .int .i64 cb, .int .i64 0] 57)).heap[w1.heap.size]? = some (.cells #[.int .i64 0, .int .i64 sa, .int .i64 ca, .int .i64 pe] 57) := (Below.heap_alloc _ _ _ (by simp)).trans (heap_alloc_new w1 _)
  have hD1 : ((w1.alloc (.cells #[.int .i64 0, .int .i64 sa, .int .i64 ca, .int .i64 pe] 57)).alloc (.cells #[.int .i64 1, .int .i64 sb, .int .i64 cb, .int .i64 0] 57)).heap[w1.heap.size + 1]? = some (.cells #[.int .i64 1, .int .i64 sb, .int .i64 cb, .int .i64 0] 57) := by
    have := heap_alloc_new (w1.alloc (.cells #[.int .i64 0, .int .i64 sa, .int .i64 ca, .int .i64 pe] 57)) (.cells #[.int .i64 1, .int .i64 sb, .int .i64 cb, .int .i64 0] 57)
    have e : (w1.alloc (.cells #[.int .i64 0, .int .i64 sa, .int .i64 ca, .int .i64 pe] 57)).heap.size = w1.heap.size + 1 := by simp
    rw [e] at this
    exact this
  have hW1 : Below w.heap.size w ((w1.alloc (.cells #[.int .i64 0, .int .i64 sa, .int .i64 ca, .int .i64 pe] 57)).alloc (.cells #[.int .i64 1, .int .i64 sb, .int .i64 cb, .int .i64 0] 57)) := ((below_tr HW.out hb1).alloc (below_tr HW.out hb1).size _).alloc (by have := (below_tr HW.out hb1).size; simp; omega) _
  have hlt1 : w1.heap.size + 1 < ((w1.alloc (.cells #[.int .i64 0, .int .i64 sa, .int .i64 ca, .int .i64 pe] 57)).alloc (.cells #[.int .i64 1, .int .i64 sb, .int .i64 cb, .int .i64 0] 57)).heap.size := by simp
  have hlt2 : w.heap.size < w1.heap.size := by omega
  generalize ((w1.alloc (.cells #[.int .i64 0, .int .i64 sa, .int .i64 ca, .int .i64 pe] 57)).alloc (.cells #[.int .i64 1, .int .i64 sb, .int .i64 cb, .int .i64 0] 57)) = wb at hS1 hC1 hD1 hW1 hlt1 ⊢
  generalize w1.heap.size = C at *
  have HS1 := hid hS1; have HC1 := hid hC1; have HD1 := hid hD1; have HW1 := hid hW1; clear k0 k1 k2 k3 k4 k5 k6 k7 hb1 c0 HS HW hlt hsz1; have k0 : wb.cell? ⟨w.heap.size, 0, none⟩ = some (.int .i64 u0) := cell_of_row wb _ 0 _ _ _ hS1; have k1 : wb.cell? ⟨w.heap.size, 1, none⟩ = some (.int .i64 u1) := cell_of_row wb _ 1 _ _ _ hS1; have k2 : wb.cell? ⟨w.heap.size, 2, none⟩ = some (.int .i64 u2) := cell_of_row wb _ 2 _ _ _ hS1; have k3 : wb.cell? ⟨w.heap.size, 3, none⟩ = some (.int .i64 u3) := cell_of_row wb _ 3 _ _ _ hS1; have k4 : wb.cell? ⟨w.heap.size, 4, none⟩ = some (.int .i64 u4) := cell_of_row wb _ 4 _ _ _ hS1; have k5 : wb.cell? ⟨w.heap.size, 5, none⟩ = some (.int .i64 u5) := cell_of_row wb _ 5 _ _ _ hS1; have k6 : wb.cell? ⟨w.heap.size, 6, none⟩ = some (.int .i64 u6) := cell_of_row wb _ 6 _ _ _ hS1; have k7 : wb.cell? ⟨w.heap.size, 7, none⟩ = some (.string u7) := cell_of_row wb _ 7 _ _ _ hS1; clear hS1 hC1 hD1 hW1
  go_upto_region 8 with (first | (go_at_call 22; (with_reducible refine (c1 _).mono ?_); rintro e w2 ⟨rfl, hb2⟩))
  have hsz2 := hb2.size
  have hS2 := (hb2.block w.heap.size (by omega)).trans HS1.out
  have hC2 := (hb2.block C (by omega)).trans HC1.out
  have hD2 := (hb2.block (C + 1) hlt1).trans HD1.out
  have hCP : C + 1 < w2.heap.size := by omega
  have HW2 : Hid (Below w.heap.size w w2) := below_tr HW1.out hb2; have HS2 := hid hS2; have HD2 := hid hD2; clear k0 k1 k2 k3 k4 k5 k6 k7 hb2 HS1 HC1 HD1 HW1 c1; have k4 : w2.cell? ⟨w.heap.size, 4, none⟩ = some (.int .i64 u4) := cell_of_row w2 _ 4 _ _ _ hS2; have k5 : w2.cell? ⟨w.heap.size, 5, none⟩ = some (.int .i64 u5) := cell_of_row w2 _ 5 _ _ _ hS2; have p1 : w2.cell? ⟨C, 1, none⟩ = some (.int .i64 sa) := cell_of_row w2 _ 1 _ _ _ hC2; have p2 : w2.cell? ⟨C, 2, none⟩ = some (.int .i64 ca) := cell_of_row w2 _ 2 _ _ _ hC2; clear hS2 hC2 hD2
  go_cut [] (fun wx => wx.heap[w2.heap.size]? = some (.cells #[.string (str da), .int .i64 0, .int .i64 1, .int .i64 0, .int .i64 0, .int .i64 0, .int .i64 sa, .int .i64 ca, .int .i64 xa, .int .i64 xb, .slice none 0 0, .slice none 0 0] 41) ∧ Below w2.heap.size w2 wx ∧ w2.heap.size < wx.heap.size)
  case first =>
    go_region_held3 (fun w' => w'.cell? ⟨C, 1, none⟩ = some (.int .i64 sa) ∧ w'.cell? ⟨C, 2, none⟩ = some (.int .i64 ca) ∧ w'.cell? ⟨w.heap.size, 4, none⟩ = some (.int .i64 u4) ∧ w'.cell? ⟨w.heap.size, 5, none⟩ = some (.int .i64 u5)) (simp (maxDischargeDepth := 40) [World.cell?_alloc_some, p1, p2, k4, k5]) (first | (go_at_call 10; go_must (first | (with_reducible refine (c3 _).mono ?_) | (with_reducible refine (c4 _).mono ?_)); rintro e w' ⟨rfl, hw⟩; rw [hw]; clear hw w'))
    all_goals (go_wp2_with fail)
    all_goals go_meet
    all_goals (
      refine ⟨heap_alloc_new w2 _, ?_, by simp⟩
      repeat (first | exact Below.refl _ _ | apply Below.drew | (refine Below.alloc ?_ (by first | exact Nat.le_refl _ | (simp; done) | (simp; omega)) _)))
  case rest =>
  obtain ⟨hP3, hb3, hlt3⟩ := hcut; have hsz3 := hb3.size
  have hS3 := (hb3.block w.heap.size (by omega)).trans HS2.out
  have hD3 := (hb3.block (C + 1) hCP).trans HD2.out; have HP3 := hid hP3; have HW3 : Hid (Below w.heap.size w wc) := below_tr HW2.out hb3; have hPw : w.heap.size ≤ w2.heap.size := HW2.out.size
  generalize w2.heap.size = P at *
  clear k4 k5 p1 p2 HS2 HD2 HW2 hb3 hsz3 hsz2; have k5 : wc.cell? ⟨w.heap.size, 5, none⟩ = some (.int .i64 u5) := cell_of_row wc _ 5 _ _ _ hS3; have p1 : wc.cell? ⟨C + 1, 1, none⟩ = some (.int .i64 sb) := cell_of_row wc _ 1 _ _ _ hD3; have p2 : wc.cell? ⟨C + 1, 2, none⟩ = some (.int .i64 cb) := cell_of_row wc _ 2 _ _ _ hD3
  obtain ⟨wd, hwd⟩ : ∃ wd : World, wd = wc := ⟨_, rfl⟩
  subst hwd; clear hS3 hD3 hP3
  go_upto_region 10 with fail
  go_cut [] (fun wx => wx.heap[wd.heap.size]? = some (.cells #[.string (str db), .int .i64 1, .int .i64 0, .int .i64 0, .int .i64 0, .int .i64 0, .int .i64 sb, .int .i64 cb, .int .i64 xb, .int .i64 0, .slice none 0 0, .slice none 0 0] 41) ∧ Below wd.heap.size wd wx ∧ wd.heap.size < wx.heap.size)
  case first =>
    go_region_held3 (fun w' => w'.cell? ⟨C + 1, 1, none⟩ = some (.int .i64 sb) ∧ w'.cell? ⟨C + 1, 2, none⟩ = some (.int .i64 cb) ∧ w'.cell? ⟨w.heap.size, 5, none⟩ = some (.int .i64 u5)) (simp (maxDischargeDepth := 40) [World.cell?_alloc_some, p1, p2, k5]) (first | (go_at_call 10; go_must (with_reducible refine (c4 _).mono ?_); rintro e w' ⟨rfl, hw⟩; rw [hw]; clear hw w'))
    all_goals (go_wp2_with fail)
    all_goals go_meet
    all_goals (
      refine ⟨heap_alloc_new wd _, ?_, by simp⟩
      repeat (first | exact Below.refl _ _ | apply Below.drew | (refine Below.alloc ?_ (by first | exact Nat.le_refl _ | (simp; done) | (simp; omega)) _)))
  case rest =>
  obtain ⟨hQ4, hb4, hlt4⟩ := hcut; have HP4 := hid ((hb4.block P hlt3).trans HP3.out); have HQ4 := hid hQ4; have HW4 : Hid (Below w.heap.size w wc) := below_tr HW3.out hb4; clear hQ4 hb4 HP3 HW3 k5 p1 p2; go_wp2
  go_ret3
  exact ⟨⟨P, wd.heap.size, rfl, hPw, hlt3, hlt4, HP4.out, HQ4.out⟩, HW4.out⟩
theorem Try.infoLetter : (Try.prog.info? 63).map (fun i => (i.zero, i.size, i.bytes)) = some (some (.agg #[.string ⟨#[]⟩, .string ⟨#[]⟩, .int .i64 0, .int .i64 0, .int .i64 0, .int .i64 0, .bool false]), 7, 72) := by kernel_rfl
theorem grown_block {X w2 : World} {v : Value} {base n size : Nat} {e : TypeId} {xs : List Value} (hown : X.ownsRow base e size v n xs) (hg : X.grownBy w2 v.ownBlock) {b : Nat} (hb : b < base) (hlt : b < X.heap.size) : w2.heap[b]? = X.heap[b]? := by
  obtain ⟨_, _, _, _, g5⟩ := hg
  exact g5 b hlt (fun q => by have := (hown.lt b q.symm).1; omega)
end Go.Proofs.Ytabpkohcimiceab
