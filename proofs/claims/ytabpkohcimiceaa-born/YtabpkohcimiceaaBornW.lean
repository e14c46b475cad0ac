import Derived.Test.YtabpkohcimiceaaKeepM
import Derived.Test.YtabpkohcimiceaaKeepE
import Derived.Test.YtabpkohcimiceaaOpenD
import Derived.Test.YtabpkohcimiceaaLookC
import Derived.WalkKit
import Derived.WalkSpells
import Derived.WalkLawsBesides
import Derived.OwnWalk
import Derived.Laws.Rows
import Derived.Deep.RegionHeld3
import Derived.Deep.DeepMust
import Derived.Deep.DeepCutAuto
namespace Go.Proofs.Ytabpkohcimiceaa
open Go.RowKit
set_option linter.unusedVariables false

/-! ### pawlkeep.Born -/
theorem open_blank (k : Nat) (h1 : 1 ≤ k) (h2 : k ≤ 40) : openErr (List.replicate (k * 32) (0 : UInt8)) = 10 := by
  have hl : (List.replicate (k * 32) (0 : UInt8)).length = k * 32 := List.length_replicate
  have hs : sortL (List.replicate (k * 32) (0 : UInt8)) = 1 := by rw [sortL, if_pos (by rw [hl])]
  rw [openErr, if_pos (disk_of_len _ k hl h1 h2), hs]; rfl
theorem open_three (x : List UInt8) (k : Nat) (hl : x.length = k * 32) (h1 : 1 ≤ k) (h2 : k ≤ 40) (h : sortL x = 3) : openErr x = 0 := by
  rw [openErr, if_pos (disk_of_len _ k hl h1 h2), h]; rfl

set_option maxRecDepth 100000 in
set_option maxHeartbeats 1000000 in
theorem born_one (u0 u1 u2 u3 u4 u5 u6 : Int) (u7 : ByteArray) (f0 f1 : Int) (k1 k2 : ByteArray) (h0 : (-9223372036854775808 ≤ u0 ∧ u0 ≤ 9223372036854775807)) (h1 : (-9223372036854775808 ≤ u1 ∧ u1 ≤ 9223372036854775807)) (h2 : (-9223372036854775808 ≤ u2 ∧ u2 ≤ 9223372036854775807)) (h3 : (-9223372036854775808 ≤ u3 ∧ u3 ≤ 9223372036854775807)) (h4 : (-9223372036854775808 ≤ u4 ∧ u4 ≤ 9223372036854775807)) (h5 : (-9223372036854775808 ≤ u5 ∧ u5 ≤ 9223372036854775807)) (h6 : (-9223372036854775808 ≤ u6 ∧ u6 ≤ 9223372036854775807)) (h7 : u7.size ≤ maxLen) (g0 : (-9223372036854775808 ≤ f0 ∧ f0 ≤ 9223372036854775807)) (g1 : (-9223372036854775808 ≤ f1 ∧ f1 ≤ 9223372036854775807)) (hk1s : k1.size ≤ maxLen) (hk2s : k2.size ≤ maxLen) (w : World) :
    Calls Try.prog 11 #[.agg #[.int .i64 u0, .int .i64 u1, .int .i64 u2, .int .i64 u3, .int .i64 u4, .int .i64 u5, .int .i64 u6, .string u7], .bool false, .agg #[.int .i64 f0, .int .i64 f1, .string k1, .string k2]] w fun e w' => e = .returned (.bool true) ∧ Below w.heap.size w w' := by
  have c0 := fun w => configs_any u0 u1 u2 u3 u4 u5 u6 u7 w h0 h1 h2 h3 h5
  obtain ⟨sk0, sk1⟩ := pickN_bd u0 13 (by omega)
  obtain ⟨cp0, cp1⟩ := pickN_bd u1 31 (by omega)
  obtain ⟨rm0, rm1⟩ := pickN_bd u6 4 (by omega)
  obtain ⟨cp, hcp⟩ := Int.eq_ofNat_of_zero_le cp0
  have hsec := secN_sec u4
  have hpub : Pub (shOut (secN u5) 7) := by
    obtain ⟨_, _, _, _, _, _, _, q1, q2⟩ := agree_facts (secN u5) (secN u5) (secN_sec _) (secN_sec _)
    unfold Pub; omega
  have hcpb : cp ≤ 30 := by omega
  obtain ⟨hh1, hh2, _⟩ := halfN_le cp hcpb
  have hbk : blankK cp u6 = 1 + 2 * halfN cp + (pickN u6 4).toNat := rfl
  have hE : creErr (List.replicate (blankK cp u6 * 32) (0 : UInt8)) 0 (pickN u0 13) (cp : Int) (shOut (secN u5) 7) (sizedL u7.data.toList 8) (secN u4) = 0 := by
    rw [creErr, if_pos (disk_of_len _ (blankK cp u6) List.length_replicate (by omega) (by omega)), if_pos, if_pos (sizedL_length _ _), List.length_replicate, Int.toNat_natCast, if_neg (by omega), if_pos rfl]
    exact ⟨hsec, ⟨by omega, by omega, by omega, by omega⟩, .inl ⟨rfl, hpub⟩⟩
  have c1 := fun w => made_any u0 u1 u2 u3 u4 u5 u6 u7 0 (pickN u0 13) (shOut (secN u5) 7) u4 cp w h6 h4 h7 hcpb hE
  obtain ⟨k, l, hkk, hk1, hk2, hpl, lok, llen, hne, htl, hs3, hend, hmid⟩ := made_facts u6 u7 0 (pickN u0 13) (shOut (secN u5) 7) u4 cp hE
  have c2 := fun w => keepBlank_any cp u6 w hcpb h6
  have c3 := fun w => sized_any u7 8 w (by omega) (by omega) h7
  rw [show (8 : Int).toNat = 8 from rfl] at c3
  have c4 := fun w => secretOf_any u4 w h4.1 h4.2
  have c5 := fun w => pawlCreate_any (str (List.replicate (blankK cp u6 * 32) (0 : UInt8))) 0 (pickN u0 13) (cp : Int) (shOut (secN u5) 7) (str (sizedL u7.data.toList 8)) (secN u4) w (by rw [str_size, List.length_replicate]; unfold maxLen; omega) (by rw [str_size, sizedL_length]; unfold maxLen; omega)
  rw [str_toList, str_toList, hE, hpl] at c5
  have c6 := fun w => broken_any (str (List.replicate (blankK cp u6 * 32) (0 : UInt8))) l k f0 f1 k1 k2 (fun r => r = List.replicate (blankK cp u6 * 32) 0 ∨ r = creTo (List.replicate (blankK cp u6 * 32) (0 : UInt8)) 0 (pickN u0 13) (cp : Int) (shOut (secN u5) 7) (sizedL u7.data.toList 8) (secN u4)) w (by rw [str_size, List.length_replicate, hkk]) hk1 hk2 lok llen (by
    intro m kq hm
    rw [str_toList]
    rcases hmid m kq hm with q | q
    · exact ⟨_, q, .inl rfl⟩
    · exact ⟨_, q, .inr rfl⟩) g0.1 g0.2 g1.1 g1.2 hk1s hk2s
  have hbl : openErr (List.replicate (blankK cp u6 * 32) (0 : UInt8)) = 10 := by rw [hkk]; exact open_blank k hk1 hk2
  have hto : openErr (creTo (List.replicate (blankK cp u6 * 32) (0 : UInt8)) 0 (pickN u0 13) (cp : Int) (shOut (secN u5) 7) (sizedL u7.data.toList 8) (secN u4)) = 0 := open_three _ k htl hk1 hk2 hs3
  have cl1 := fun w => look_any (str (List.replicate (blankK cp u6 * 32) (0 : UInt8))) w (by rw [str_size, List.length_replicate]; unfold maxLen; omega)
  have cl2 := fun w => look_any (str (creTo (List.replicate (blankK cp u6 * 32) (0 : UInt8)) 0 (pickN u0 13) (cp : Int) (shOut (secN u5) 7) (sizedL u7.data.toList 8) (secN u4))) w (by rw [str_size, htl]; unfold maxLen; omega)
  rw [str_toList, hbl] at cl1
  rw [str_toList, hto] at cl2
  have hlv : ∀ d, ∃ (v0 v1 v2 v3 v4 v5 v6 v7 v8 : Int) (v9 : ByteArray), lookV d = #[.int .i64 v0, .int .i64 v1, .int .i64 v2, .int .i64 v3, .int .i64 v4, .int .i64 v5, .int .i64 v6, .int .i64 v7, .int .i64 v8, .string v9] := by
    intro d
    rw [lookV]; split
    · exact ⟨_, _, _, _, _, _, _, _, _, _, rfl⟩
    · exact ⟨_, _, _, _, _, _, _, _, _, _, rfl⟩
  obtain ⟨v0, v1, v2, v3, v4, v5, v6, v7, v8, v9, hv1⟩ := hlv (List.replicate (blankK cp u6 * 32) (0 : UInt8))
  obtain ⟨z0, z1, z2, z3, z4, z5, z6, z7, z8, z9, hv2⟩ := hlv (creTo (List.replicate (blankK cp u6 * 32) (0 : UInt8)) 0 (pickN u0 13) (cp : Int) (shOut (secN u5) 7) (sizedL u7.data.toList 8) (secN u4))
  rw [hv1] at cl1
  rw [hv2] at cl2
  have hbq : ((str (creTo (List.replicate (blankK cp u6 * 32) (0 : UInt8)) 0 (pickN u0 13) (cp : Int) (shOut (secN u5) 7) (sizedL u7.data.toList 8) (secN u4))).toList == (str (List.replicate (blankK cp u6 * 32) (0 : UInt8))).toList) = false := by
    rw [ByteArray.toList_eq, ByteArray.toList_eq, str_toList, str_toList, beq_eq_false_iff_ne]; exact hne
  have c6' : ∀ w, Calls Try.prog 44 #[.string (str (List.replicate (blankK cp u6 * 32) (0 : UInt8))), .string (str (encL l)), .agg #[.int .i64 f0, .int .i64 f1, .string k1, .string k2]] w fun e w' => (∃ xx, (xx = str (List.replicate (blankK cp u6 * 32) (0 : UInt8)) ∨ xx = str (creTo (List.replicate (blankK cp u6 * 32) (0 : UInt8)) 0 (pickN u0 13) (cp : Int) (shOut (secN u5) 7) (sizedL u7.data.toList 8) (secN u4))) ∧ e = .returned (.tuple #[.string xx, .bool true])) ∧ Below w.heap.size w w' := by
    intro w
    refine (c6 w).mono ?_
    rintro e w' ⟨⟨r, hr, _, he⟩, hb⟩
    rcases hr with hr | hr
    · rw [hr] at he; exact ⟨⟨_, .inl rfl, he⟩, hb⟩
    · rw [hr] at he; exact ⟨⟨_, .inr rfl, he⟩, hb⟩
  rw [hcp] at c0
  unfold cfgCells at c5
  clear c6 hE hpl lok llen hne htl hs3 hend hmid hbl hto hlv hv1 hv2 hkk hk1 hk2 hbk hsec sk0 sk1 cp0 cp1 rm0 rm1 hpub hh1 hh2
  generalize str (creTo (List.replicate (blankK cp u6 * 32) (0 : UInt8)) 0 (pickN u0 13) (cp : Int) (shOut (secN u5) 7) (sizedL u7.data.toList 8) (secN u4)) = tt at *
  generalize str (List.replicate (blankK cp u6 * 32) (0 : UInt8)) = dz at *
  generalize str (sizedL u7.data.toList 8) = sc at *
  generalize str (encL l) = pl at *
  generalize secN u4 = dn at *
  generalize shOut (secN u5) 7 = y at *
  skip
  generalize pickN u0 13 = x0 at *
  generalize pickN u2 13 = x2 at *
  generalize pickN u3 31 = x3 at *
  have tok1 : True := trivial
  go_enter Try.func11, Try.ntmps11
  go_upto_region 1 with fail
  have hB : ((w.alloc (.cells #[.int .i64 u0, .int .i64 u1, .int .i64 u2, .int .i64 u3, .int .i64 u4, .int .i64 u5, .int .i64 u6, .string u7] 58)).alloc (.cells #[.int .i64 f0, .int .i64 f1, .string k1, .string k2] 60)).heap[w.heap.size]? = some (.cells #[.int .i64 u0, .int .i64 u1, .int .i64 u2, .int .i64 u3, .int .i64 u4, .int .i64 u5, .int .i64 u6, .string u7] 58) := (Below.heap_alloc _ _ _ (by simp)).trans (heap_alloc_new w _)
  have hF : ((w.alloc (.cells #[.int .i64 u0, .int .i64 u1, .int .i64 u2, .int .i64 u3, .int .i64 u4, .int .i64 u5, .int .i64 u6, .string u7] 58)).alloc (.cells #[.int .i64 f0, .int .i64 f1, .string k1, .string k2] 60)).heap[w.heap.size + 1]? = some (.cells #[.int .i64 f0, .int .i64 f1, .string k1, .string k2] 60) := by
    have := heap_alloc_new (w.alloc (.cells #[.int .i64 u0, .int .i64 u1, .int .i64 u2, .int .i64 u3, .int .i64 u4, .int .i64 u5, .int .i64 u6, .string u7] 58)) (.cells #[.int .i64 f0, .int .i64 f1, .string k1, .string k2] 60)
    have e : (w.alloc (.cells #[.int .i64 u0, .int .i64 u1, .int .i64 u2, .int .i64 u3, .int .i64 u4, .int .i64 u5, .int .i64 u6, .string u7] 58)).heap.size = w.heap.size + 1 := by simp
    rw [e] at this
    exact this
  have hW : Below w.heap.size w ((w.alloc (.cells #[.int .i64 u0, .int .i64 u1, .int .i64 u2, .int .i64 u3, .int .i64 u4, .int .i64 u5, .int .i64 u6, .string u7] 58)).alloc (.cells #[.int .i64 f0, .int .i64 f1, .string k1, .string k2] 60)) := ((Below.refl _ _).alloc (Nat.le_refl _) _).alloc (by simp) _
  have hlt : w.heap.size + 1 < ((w.alloc (.cells #[.int .i64 u0, .int .i64 u1, .int .i64 u2, .int .i64 u3, .int .i64 u4, .int .i64 u5, .int .i64 u6, .string u7] 58)).alloc (.cells #[.int .i64 f0, .int .i64 f1, .string k1, .string k2] 60)).heap.size := by simp
  generalize ((w.alloc (.cells #[.int .i64 u0, .int .i64 u1, .int .i64 u2, .int .i64 u3, .int .i64 u4, .int .i64 u5, .int .i64 u6, .string u7] 58)).alloc (.cells #[.int .i64 f0, .int .i64 f1, .string k1, .string k2] 60)) = wb at hB hF hW hlt ⊢
  have HB : Hid (wb.heap[w.heap.size]? = some (.cells #[.int .i64 u0, .int .i64 u1, .int .i64 u2, .int .i64 u3, .int .i64 u4, .int .i64 u5, .int .i64 u6, .string u7] 58)) := hB
  have HF : Hid (wb.heap[w.heap.size + 1]? = some (.cells #[.int .i64 f0, .int .i64 f1, .string k1, .string k2] 60)) := hF
  have HW : Hid (Below w.heap.size w wb) := hW
  have su0 : wb.cell? ⟨w.heap.size, 0, none⟩ = some (.int .i64 u0) := cell_of_row wb _ 0 _ _ _ hB
  have su1 : wb.cell? ⟨w.heap.size, 1, none⟩ = some (.int .i64 u1) := cell_of_row wb _ 1 _ _ _ hB
  have su2 : wb.cell? ⟨w.heap.size, 2, none⟩ = some (.int .i64 u2) := cell_of_row wb _ 2 _ _ _ hB
  have su3 : wb.cell? ⟨w.heap.size, 3, none⟩ = some (.int .i64 u3) := cell_of_row wb _ 3 _ _ _ hB
  have su4 : wb.cell? ⟨w.heap.size, 4, none⟩ = some (.int .i64 u4) := cell_of_row wb _ 4 _ _ _ hB
  have su5 : wb.cell? ⟨w.heap.size, 5, none⟩ = some (.int .i64 u5) := cell_of_row wb _ 5 _ _ _ hB
  have su6 : wb.cell? ⟨w.heap.size, 6, none⟩ = some (.int .i64 u6) := cell_of_row wb _ 6 _ _ _ hB
  have su7 : wb.cell? ⟨w.heap.size, 7, none⟩ = some (.string u7) := cell_of_row wb _ 7 _ _ _ hB
  clear hB hF hW
  go_upto_region 5 with (first | (go_at_call 41; go_loud (with_reducible refine (c0 _).mono ?_); rintro e w1 ⟨rfl, hb1⟩; have hl1 : w.heap.size < w1.heap.size := (by have := hb1.size; omega); have hl2' : w.heap.size + 1 < w1.heap.size := (by have := hb1.size; omega); have m0 := (hb1.cell (p := ⟨w.heap.size, 0, none⟩) (by show w.heap.size < _; omega)).trans su0; have m1 := (hb1.cell (p := ⟨w.heap.size, 1, none⟩) (by show w.heap.size < _; omega)).trans su1; have m2 := (hb1.cell (p := ⟨w.heap.size, 2, none⟩) (by show w.heap.size < _; omega)).trans su2; have m3 := (hb1.cell (p := ⟨w.heap.size, 3, none⟩) (by show w.heap.size < _; omega)).trans su3; have m4 := (hb1.cell (p := ⟨w.heap.size, 4, none⟩) (by show w.heap.size < _; omega)).trans su4; have m5 := (hb1.cell (p := ⟨w.heap.size, 5, none⟩) (by show w.heap.size < _; omega)).trans su5; have m6 := (hb1.cell (p := ⟨w.heap.size, 6, none⟩) (by show w.heap.size < _; omega)).trans su6; have m7 := (hb1.cell (p := ⟨w.heap.size, 7, none⟩) (by show w.heap.size < _; omega)).trans su7))
  have hsz1 := hb1.size
  have hBx : (((w1.alloc (.cells #[.int .i64 0, .int .i64 x0, .int .i64 (cp : Int), .int .i64 y] 48)).alloc (.cells #[.int .i64 1, .int .i64 x2, .int .i64 x3, .int .i64 0] 48)).alloc (.cells #[.int .i64 0, .int .i64 x0, .int .i64 (cp : Int), .int .i64 y] 48)).heap[w.heap.size]? = some (.cells #[.int .i64 u0, .int .i64 u1, .int .i64 u2, .int .i64 u3, .int .i64 u4, .int .i64 u5, .int .i64 u6, .string u7] 58) := ((Below.heap_alloc _ _ _ (by simp; omega)).trans ((Below.heap_alloc _ _ _ (by simp; omega)).trans (Below.heap_alloc _ _ _ (by omega)))).trans ((hb1.block w.heap.size (by omega)).trans HB.out)
  have hFx : (((w1.alloc (.cells #[.int .i64 0, .int .i64 x0, .int .i64 (cp : Int), .int .i64 y] 48)).alloc (.cells #[.int .i64 1, .int .i64 x2, .int .i64 x3, .int .i64 0] 48)).alloc (.cells #[.int .i64 0, .int .i64 x0, .int .i64 (cp : Int), .int .i64 y] 48)).heap[w.heap.size + 1]? = some (.cells #[.int .i64 f0, .int .i64 f1, .string k1, .string k2] 60) := ((Below.heap_alloc _ _ _ (by simp; omega)).trans ((Below.heap_alloc _ _ _ (by simp; omega)).trans (Below.heap_alloc _ _ _ (by omega)))).trans ((hb1.block (w.heap.size + 1) hlt).trans HF.out)
  have hCx : (((w1.alloc (.cells #[.int .i64 0, .int .i64 x0, .int .i64 (cp : Int), .int .i64 y] 48)).alloc (.cells #[.int .i64 1, .int .i64 x2, .int .i64 x3, .int .i64 0] 48)).alloc (.cells #[.int .i64 0, .int .i64 x0, .int .i64 (cp : Int), .int .i64 y] 48)).heap[w1.heap.size + 1 + 1]? = some (.cells #[.int .i64 0, .int .i64 x0, .int .i64 (cp : Int), .int .i64 y] 48) := by
    have := heap_alloc_new ((w1.alloc (.cells #[.int .i64 0, .int .i64 x0, .int .i64 (cp : Int), .int .i64 y] 48)).alloc (.cells #[.int .i64 1, .int .i64 x2, .int .i64 x3, .int .i64 0] 48)) (.cells #[.int .i64 0, .int .i64 x0, .int .i64 (cp : Int), .int .i64 y] 48)
    have e : ((w1.alloc (.cells #[.int .i64 0, .int .i64 x0, .int .i64 (cp : Int), .int .i64 y] 48)).alloc (.cells #[.int .i64 1, .int .i64 x2, .int .i64 x3, .int .i64 0] 48)).heap.size = w1.heap.size + 1 + 1 := by simp
    rw [e] at this
    exact this
  have hDx : (((w1.alloc (.cells #[.int .i64 0, .int .i64 x0, .int .i64 (cp : Int), .int .i64 y] 48)).alloc (.cells #[.int .i64 1, .int .i64 x2, .int .i64 x3, .int .i64 0] 48)).alloc (.cells #[.int .i64 0, .int .i64 x0, .int .i64 (cp : Int), .int .i64 y] 48)).heap[w1.heap.size + 1]? = some (.cells #[.int .i64 1, .int .i64 x2, .int .i64 x3, .int .i64 0] 48) := by
    refine (Below.heap_alloc _ _ _ (by simp)).trans ?_
    have := heap_alloc_new (w1.alloc (.cells #[.int .i64 0, .int .i64 x0, .int .i64 (cp : Int), .int .i64 y] 48)) (.cells #[.int .i64 1, .int .i64 x2, .int .i64 x3, .int .i64 0] 48)
    have e : (w1.alloc (.cells #[.int .i64 0, .int .i64 x0, .int .i64 (cp : Int), .int .i64 y] 48)).heap.size = w1.heap.size + 1 := by simp
    rw [e] at this
    exact this
  have hWx : Below w.heap.size w (((w1.alloc (.cells #[.int .i64 0, .int .i64 x0, .int .i64 (cp : Int), .int .i64 y] 48)).alloc (.cells #[.int .i64 1, .int .i64 x2, .int .i64 x3, .int .i64 0] 48)).alloc (.cells #[.int .i64 0, .int .i64 x0, .int .i64 (cp : Int), .int .i64 y] 48)) := (((below_tr HW.out hb1).alloc (by omega) _).alloc (by simp; omega) _).alloc (by simp; omega) _
  have hltx : w1.heap.size + 1 + 1 < (((w1.alloc (.cells #[.int .i64 0, .int .i64 x0, .int .i64 (cp : Int), .int .i64 y] 48)).alloc (.cells #[.int .i64 1, .int .i64 x2, .int .i64 x3, .int .i64 0] 48)).alloc (.cells #[.int .i64 0, .int .i64 x0, .int .i64 (cp : Int), .int .i64 y] 48)).heap.size := by simp
  have hCl : w.heap.size + 1 < w1.heap.size + 1 + 1 := by omega
  have hDl : w1.heap.size + 1 < w1.heap.size + 1 + 1 := by omega
  have hDl2 : w.heap.size + 1 < w1.heap.size + 1 := by omega
  generalize (((w1.alloc (.cells #[.int .i64 0, .int .i64 x0, .int .i64 (cp : Int), .int .i64 y] 48)).alloc (.cells #[.int .i64 1, .int .i64 x2, .int .i64 x3, .int .i64 0] 48)).alloc (.cells #[.int .i64 0, .int .i64 x0, .int .i64 (cp : Int), .int .i64 y] 48)) = wx at hBx hFx hCx hDx hWx hltx ⊢
  generalize w1.heap.size + 1 + 1 = CB at hCx hltx hCl hDl ⊢
  generalize w1.heap.size + 1 = DB at hDx hDl hDl2 ⊢
  have HBx : Hid (wx.heap[w.heap.size]? = some (.cells #[.int .i64 u0, .int .i64 u1, .int .i64 u2, .int .i64 u3, .int .i64 u4, .int .i64 u5, .int .i64 u6, .string u7] 58)) := hBx
  have HFx : Hid (wx.heap[w.heap.size + 1]? = some (.cells #[.int .i64 f0, .int .i64 f1, .string k1, .string k2] 60)) := hFx
  have HCx : Hid (wx.heap[CB]? = some (.cells #[.int .i64 0, .int .i64 x0, .int .i64 (cp : Int), .int .i64 y] 48)) := hCx
  have HWx : Hid (Below w.heap.size w wx) := hWx
  clear su0 su1 su2 su3 su4 su5 su6 su7 m0 m1 m2 m3 m4 m5 m6 m7 hb1 HB HF HW c0
  have su0 : wx.cell? ⟨w.heap.size, 0, none⟩ = some (.int .i64 u0) := cell_of_row wx _ 0 _ _ _ hBx
  have su1 : wx.cell? ⟨w.heap.size, 1, none⟩ = some (.int .i64 u1) := cell_of_row wx _ 1 _ _ _ hBx
  have su2 : wx.cell? ⟨w.heap.size, 2, none⟩ = some (.int .i64 u2) := cell_of_row wx _ 2 _ _ _ hBx
  have su3 : wx.cell? ⟨w.heap.size, 3, none⟩ = some (.int .i64 u3) := cell_of_row wx _ 3 _ _ _ hBx
  have su4 : wx.cell? ⟨w.heap.size, 4, none⟩ = some (.int .i64 u4) := cell_of_row wx _ 4 _ _ _ hBx
  have su5 : wx.cell? ⟨w.heap.size, 5, none⟩ = some (.int .i64 u5) := cell_of_row wx _ 5 _ _ _ hBx
  have su6 : wx.cell? ⟨w.heap.size, 6, none⟩ = some (.int .i64 u6) := cell_of_row wx _ 6 _ _ _ hBx
  have su7 : wx.cell? ⟨w.heap.size, 7, none⟩ = some (.string u7) := cell_of_row wx _ 7 _ _ _ hBx
  have n0 : wx.cell? ⟨CB, 0, none⟩ = some (.int .i64 0) := cell_of_row wx _ 0 _ _ _ hCx
  have n1 : wx.cell? ⟨CB, 1, none⟩ = some (.int .i64 x0) := cell_of_row wx _ 1 _ _ _ hCx
  have n2 : wx.cell? ⟨CB, 2, none⟩ = some (.int .i64 (cp : Int)) := cell_of_row wx _ 2 _ _ _ hCx
  have n3 : wx.cell? ⟨CB, 3, none⟩ = some (.int .i64 y) := cell_of_row wx _ 3 _ _ _ hCx
  have o0 : wx.cell? ⟨DB, 0, none⟩ = some (.int .i64 1) := cell_of_row wx _ 0 _ _ _ hDx
  have o1 : wx.cell? ⟨DB, 1, none⟩ = some (.int .i64 x2) := cell_of_row wx _ 1 _ _ _ hDx
  have o2 : wx.cell? ⟨DB, 2, none⟩ = some (.int .i64 x3) := cell_of_row wx _ 2 _ _ _ hDx
  have o3 : wx.cell? ⟨DB, 3, none⟩ = some (.int .i64 0) := cell_of_row wx _ 3 _ _ _ hDx
  have fC : ∀ j, wx.frozen? ⟨CB, j, none⟩ = false := fun j => frozen_of_row wx _ j _ _ hCx
  have ne1 : ¬ w.heap.size = CB := by omega
  have ne2 : ¬ CB = w.heap.size := by omega
  have ne3 : ¬ DB = CB := by omega
  have ne4 : ¬ CB = DB := by omega
  clear hBx hFx hCx hWx hDx
  go_upto_region 9 with fail
  go_upto_region 12 with (first | (go_at_call 42; go_loud (with_reducible refine (c1 _).mono ?_); rintro e w2 ⟨rfl, hb2⟩))
  have hsz2 := hb2.size
  have HF2 : Hid (w2.heap[w.heap.size + 1]? = some (.cells #[.int .i64 f0, .int .i64 f1, .string k1, .string k2] 60)) := (hb2.block (w.heap.size + 1) (by omega)).trans HFx.out
  have HW2 : Hid (Below w.heap.size w w2) := below_tr HWx.out hb2
  have hB2 := (hb2.block w.heap.size (by omega)).trans HBx.out
  have hC2 := (hb2.block CB (by omega)).trans HCx.out
  clear su0 su1 su2 su3 su4 su5 su6 su7 n0 n1 n2 n3 HBx HFx HCx HWx c1
  have su6 : w2.cell? ⟨w.heap.size, 6, none⟩ = some (.int .i64 u6) := cell_of_row w2 _ 6 _ _ _ hB2
  have su7 : w2.cell? ⟨w.heap.size, 7, none⟩ = some (.string u7) := cell_of_row w2 _ 7 _ _ _ hB2
  have n0 : w2.cell? ⟨CB, 0, none⟩ = some (.int .i64 0) := cell_of_row w2 _ 0 _ _ _ hC2
  have n1 : w2.cell? ⟨CB, 1, none⟩ = some (.int .i64 x0) := cell_of_row w2 _ 1 _ _ _ hC2
  have n2 : w2.cell? ⟨CB, 2, none⟩ = some (.int .i64 (cp : Int)) := cell_of_row w2 _ 2 _ _ _ hC2
  have n3 : w2.cell? ⟨CB, 3, none⟩ = some (.int .i64 y) := cell_of_row w2 _ 3 _ _ _ hC2
  have hl2 : CB < w2.heap.size := by omega
  clear hB2 hC2 hb2 hsz2 hsz1
  go_upto_region 13 with (first | (go_at_call 43; go_loud (with_reducible refine (c2 _).mono ?_); rintro e w' ⟨rfl, hw⟩; rw [hw]; clear hw w'))
  go_cut [14, 15] (fun x14 x15 wy => x14 = .string pl ∧ x15 = .int .i64 0 ∧ Below w2.heap.size w2 wy)
  case first =>
    go_region_held3 (fun w' => w'.cell? ⟨CB, 0, none⟩ = some (.int .i64 0) ∧ w'.cell? ⟨CB, 1, none⟩ = some (.int .i64 x0) ∧ w'.cell? ⟨CB, 2, none⟩ = some (.int .i64 (cp : Int)) ∧ w'.cell? ⟨CB, 3, none⟩ = some (.int .i64 y) ∧ w'.cell? ⟨w.heap.size, 7, none⟩ = some (.string u7)) (first | (simp [n0, n1, n2, n3, su7]; done) | (simp [g0', g1', g2', g3', g7']; done)) (first | (go_at_call 26; go_must (with_reducible refine (c3 _).mono ?_); rintro e w' ⟨rfl, hw⟩; rw [hw]; clear hw w') | (go_at_call 25; go_must (with_reducible refine (c4 _).mono ?_); rintro e w' ⟨rfl, hw⟩; rw [hw]; clear hw w') | (go_at_call 35; go_must (with_reducible refine (c5 _).mono ?_); rintro e w3 ⟨rfl, hb3⟩; have hb3' : Below w2.heap.size w2 w3 := ⟨hb3.os, hb3.tape, hb3.output, hb3.size, hb3.block⟩; have g0' := (hb3'.cell (p := ⟨CB, 0, none⟩) hl2).trans n0; have g1' := (hb3'.cell (p := ⟨CB, 1, none⟩) hl2).trans n1; have g2' := (hb3'.cell (p := ⟨CB, 2, none⟩) hl2).trans n2; have g3' := (hb3'.cell (p := ⟨CB, 3, none⟩) hl2).trans n3; have g7' := (hb3'.cell (p := ⟨w.heap.size, 7, none⟩) (by show w.heap.size < _; omega)).trans su7; clear hb3'))
    all_goals (go_wp2_with fail)
    all_goals go_meet
    all_goals exact ⟨rfl, rfl, ⟨hb3.os, hb3.tape, hb3.output, hb3.size, hb3.block⟩⟩
  case rest =>
    obtain ⟨rfl, rfl, hb3⟩ := hcut
    have hF3 := (hb3.block (w.heap.size + 1) (by omega)).trans HF2.out
    have HW3 : Hid (Below w.heap.size w wc) := below_tr HW2.out hb3
    have q0 : wc.cell? ⟨w.heap.size + 1, 0, none⟩ = some (.int .i64 f0) := cell_of_row wc _ 0 _ _ _ hF3
    have q1 : wc.cell? ⟨w.heap.size + 1, 1, none⟩ = some (.int .i64 f1) := cell_of_row wc _ 1 _ _ _ hF3
    have q2 : wc.cell? ⟨w.heap.size + 1, 2, none⟩ = some (.string k1) := cell_of_row wc _ 2 _ _ _ hF3
    have q3 : wc.cell? ⟨w.heap.size + 1, 3, none⟩ = some (.string k2) := cell_of_row wc _ 3 _ _ _ hF3
    clear hb3 hF3 HF2 HW2 n0 n1 n2 n3 su6 su7 c2 c3 c4 c5
    go_upto_region 15 with (first | (go_at_call 44; go_loud (with_reducible refine (c6' _).mono ?_); rintro e w4 ⟨⟨xx, hxx, rfl⟩, hb4⟩))
    have HW4 : Hid (Below w.heap.size w w4) := below_tr HW3.out hb4
    clear hb4 HW3 q0 q1 q2 q3 c6'
    rcases hxx with rfl | rfl
    · go_wp2_with (first | (go_at_call 45; go_loud (with_reducible refine (cl1 _).mono ?_); rintro e w5 ⟨rfl, hb5⟩))
      go_ret
      exact ⟨rfl, below_tr HW4.out (hb5.alloc hb5.size _)⟩
    · go_wp2_with (first | (go_at_call 45; go_loud (with_reducible refine (cl2 _).mono ?_); rintro e w5 ⟨rfl, hb5⟩))
      go_ret
      exact ⟨rfl, below_tr HW4.out (hb5.alloc hb5.size _)⟩

set_option maxRecDepth 100000 in
set_option maxHeartbeats 1000000 in
theorem born_two (u0 u1 u2 u3 u4 u5 u6 : Int) (u7 : ByteArray) (f0 f1 : Int) (k1 k2 : ByteArray) (h0 : (-9223372036854775808 ≤ u0 ∧ u0 ≤ 9223372036854775807)) (h1 : (-9223372036854775808 ≤ u1 ∧ u1 ≤ 9223372036854775807)) (h2 : (-9223372036854775808 ≤ u2 ∧ u2 ≤ 9223372036854775807)) (h3 : (-9223372036854775808 ≤ u3 ∧ u3 ≤ 9223372036854775807)) (h4 : (-9223372036854775808 ≤ u4 ∧ u4 ≤ 9223372036854775807)) (h5 : (-9223372036854775808 ≤ u5 ∧ u5 ≤ 9223372036854775807)) (h6 : (-9223372036854775808 ≤ u6 ∧ u6 ≤ 9223372036854775807)) (h7 : u7.size ≤ maxLen) (g0 : (-9223372036854775808 ≤ f0 ∧ f0 ≤ 9223372036854775807)) (g1 : (-9223372036854775808 ≤ f1 ∧ f1 ≤ 9223372036854775807)) (hk1s : k1.size ≤ maxLen) (hk2s : k2.size ≤ maxLen) (w : World) :
    Calls Try.prog 11 #[.agg #[.int .i64 u0, .int .i64 u1, .int .i64 u2, .int .i64 u3, .int .i64 u4, .int .i64 u5, .int .i64 u6, .string u7], .bool true, .agg #[.int .i64 f0, .int .i64 f1, .string k1, .string k2]] w fun e w' => e = .returned (.bool true) ∧ Below w.heap.size w w' := by
  have c0 := fun w => configs_any u0 u1 u2 u3 u4 u5 u6 u7 w h0 h1 h2 h3 h5
  obtain ⟨sk0, sk1⟩ := pickN_bd u2 13 (by omega)
  obtain ⟨cp0, cp1⟩ := pickN_bd u3 31 (by omega)
  obtain ⟨rm0, rm1⟩ := pickN_bd u6 4 (by omega)
  obtain ⟨cp, hcp⟩ := Int.eq_ofNat_of_zero_le cp0
  have hsec := secN_sec u5
  have hpub : Pub (shOut (secN u5) 7) := by
    obtain ⟨_, _, _, _, _, _, _, q1, q2⟩ := agree_facts (secN u5) (secN u5) (secN_sec _) (secN_sec _)
    unfold Pub; omega
  have hcpb : cp ≤ 30 := by omega
  obtain ⟨hh1, hh2, _⟩ := halfN_le cp hcpb
  have hbk : blankK cp u6 = 1 + 2 * halfN cp + (pickN u6 4).toNat := rfl
  have hE : creErr (List.replicate (blankK cp u6 * 32) (0 : UInt8)) 1 (pickN u2 13) (cp : Int) 0 (sizedL u7.data.toList 8) (secN u5) = 0 := by
    rw [creErr, if_pos (disk_of_len _ (blankK cp u6) List.length_replicate (by omega) (by omega)), if_pos, if_pos (sizedL_length _ _), List.length_replicate, Int.toNat_natCast, if_neg (by omega), if_pos rfl]
    exact ⟨hsec, ⟨by omega, by omega, by omega, by omega⟩, .inr ⟨rfl, rfl⟩⟩
  have c1 := fun w => made_any u0 u1 u2 u3 u4 u5 u6 u7 1 (pickN u2 13) 0 u5 cp w h6 h5 h7 hcpb hE
  obtain ⟨k, l, hkk, hk1, hk2, hpl, lok, llen, hne, htl, hs3, hend, hmid⟩ := made_facts u6 u7 1 (pickN u2 13) 0 u5 cp hE
  have c2 := fun w => keepBlank_any cp u6 w hcpb h6
  have c3 := fun w => sized_any u7 8 w (by omega) (by omega) h7
  rw [show (8 : Int).toNat = 8 from rfl] at c3
  have c4 := fun w => secretOf_any u5 w h5.1 h5.2
  have c5 := fun w => pawlCreate_any (str (List.replicate (blankK cp u6 * 32) (0 : UInt8))) 1 (pickN u2 13) (cp : Int) 0 (str (sizedL u7.data.toList 8)) (secN u5) w (by rw [str_size, List.length_replicate]; unfold maxLen; omega) (by rw [str_size, sizedL_length]; unfold maxLen; omega)
  rw [str_toList, str_toList, hE, hpl] at c5
  have c6 := fun w => broken_any (str (List.replicate (blankK cp u6 * 32) (0 : UInt8))) l k f0 f1 k1 k2 (fun r => r = List.replicate (blankK cp u6 * 32) 0 ∨ r = creTo (List.replicate (blankK cp u6 * 32) (0 : UInt8)) 1 (pickN u2 13) (cp : Int) 0 (sizedL u7.data.toList 8) (secN u5)) w (by rw [str_size, List.length_replicate, hkk]) hk1 hk2 lok llen (by
    intro m kq hm
    rw [str_toList]
    rcases hmid m kq hm with q | q
    · exact ⟨_, q, .inl rfl⟩
    · exact ⟨_, q, .inr rfl⟩) g0.1 g0.2 g1.1 g1.2 hk1s hk2s
  have hbl : openErr (List.replicate (blankK cp u6 * 32) (0 : UInt8)) = 10 := by rw [hkk]; exact open_blank k hk1 hk2
  have hto : openErr (creTo (List.replicate (blankK cp u6 * 32) (0 : UInt8)) 1 (pickN u2 13) (cp : Int) 0 (sizedL u7.data.toList 8) (secN u5)) = 0 := open_three _ k htl hk1 hk2 hs3
  have cl1 := fun w => look_any (str (List.replicate (blankK cp u6 * 32) (0 : UInt8))) w (by rw [str_size, List.length_replicate]; unfold maxLen; omega)
  have cl2 := fun w => look_any (str (creTo (List.replicate (blankK cp u6 * 32) (0 : UInt8)) 1 (pickN u2 13) (cp : Int) 0 (sizedL u7.data.toList 8) (secN u5))) w (by rw [str_size, htl]; unfold maxLen; omega)
  rw [str_toList, hbl] at cl1
  rw [str_toList, hto] at cl2
  have hlv : ∀ d, ∃ (v0 v1 v2 v3 v4 v5 v6 v7 v8 : Int) (v9 : ByteArray), lookV d = #[.int .i64 v0, .int .i64 v1, .int .i64 v2, .int .i64 v3, .int .i64 v4, .int .i64 v5, .int .i64 v6, .int .i64 v7, .int .i64 v8, .string v9] := by
    intro d
    rw [lookV]; split
    · exact ⟨_, _, _, _, _, _, _, _, _, _, rfl⟩
    · exact ⟨_, _, _, _, _, _, _, _, _, _, rfl⟩
  obtain ⟨v0, v1, v2, v3, v4, v5, v6, v7, v8, v9, hv1⟩ := hlv (List.replicate (blankK cp u6 * 32) (0 : UInt8))
  obtain ⟨z0, z1, z2, z3, z4, z5, z6, z7, z8, z9, hv2⟩ := hlv (creTo (List.replicate (blankK cp u6 * 32) (0 : UInt8)) 1 (pickN u2 13) (cp : Int) 0 (sizedL u7.data.toList 8) (secN u5))
  rw [hv1] at cl1
  rw [hv2] at cl2
  have hbq : ((str (creTo (List.replicate (blankK cp u6 * 32) (0 : UInt8)) 1 (pickN u2 13) (cp : Int) 0 (sizedL u7.data.toList 8) (secN u5))).toList == (str (List.replicate (blankK cp u6 * 32) (0 : UInt8))).toList) = false := by
    rw [ByteArray.toList_eq, ByteArray.toList_eq, str_toList, str_toList, beq_eq_false_iff_ne]; exact hne
  have c6' : ∀ w, Calls Try.prog 44 #[.string (str (List.replicate (blankK cp u6 * 32) (0 : UInt8))), .string (str (encL l)), .agg #[.int .i64 f0, .int .i64 f1, .string k1, .string k2]] w fun e w' => (∃ xx, (xx = str (List.replicate (blankK cp u6 * 32) (0 : UInt8)) ∨ xx = str (creTo (List.replicate (blankK cp u6 * 32) (0 : UInt8)) 1 (pickN u2 13) (cp : Int) 0 (sizedL u7.data.toList 8) (secN u5))) ∧ e = .returned (.tuple #[.string xx, .bool true])) ∧ Below w.heap.size w w' := by
    intro w
    refine (c6 w).mono ?_
    rintro e w' ⟨⟨r, hr, _, he⟩, hb⟩
    rcases hr with hr | hr
    · rw [hr] at he; exact ⟨⟨_, .inl rfl, he⟩, hb⟩
    · rw [hr] at he; exact ⟨⟨_, .inr rfl, he⟩, hb⟩
  rw [hcp] at c0
  unfold cfgCells at c5
  clear c6 hE hpl lok llen hne htl hs3 hend hmid hbl hto hlv hv1 hv2 hkk hk1 hk2 hbk hsec sk0 sk1 cp0 cp1 rm0 rm1 hpub hh1 hh2
  generalize str (creTo (List.replicate (blankK cp u6 * 32) (0 : UInt8)) 1 (pickN u2 13) (cp : Int) 0 (sizedL u7.data.toList 8) (secN u5)) = tt at *
  generalize str (List.replicate (blankK cp u6 * 32) (0 : UInt8)) = dz at *
  generalize str (sizedL u7.data.toList 8) = sc at *
  generalize str (encL l) = pl at *
  generalize secN u5 = dn at *
  
  generalize shOut dn 7 = y at *
  generalize pickN u0 13 = x0 at *
  generalize pickN u2 13 = x2 at *
  generalize pickN u1 31 = x1 at *
  have tok1 : True := trivial
  go_enter Try.func11, Try.ntmps11
  go_upto_region 1 with fail
  have hB : ((w.alloc (.cells #[.int .i64 u0, .int .i64 u1, .int .i64 u2, .int .i64 u3, .int .i64 u4, .int .i64 u5, .int .i64 u6, .string u7] 58)).alloc (.cells #[.int .i64 f0, .int .i64 f1, .string k1, .string k2] 60)).heap[w.heap.size]? = some (.cells #[.int .i64 u0, .int .i64 u1, .int .i64 u2, .int .i64 u3, .int .i64 u4, .int .i64 u5, .int .i64 u6, .string u7] 58) := (Below.heap_alloc _ _ _ (by simp)).trans (heap_alloc_new w _)
  have hF : ((w.alloc (.cells #[.int .i64 u0, .int .i64 u1, .int .i64 u2, .int .i64 u3, .int .i64 u4, .int .i64 u5, .int .i64 u6, .string u7] 58)).alloc (.cells #[.int .i64 f0, .int .i64 f1, .string k1, .string k2] 60)).heap[w.heap.size + 1]? = some (.cells #[.int .i64 f0, .int .i64 f1, .string k1, .string k2] 60) := by
    have := heap_alloc_new (w.alloc (.cells #[.int .i64 u0, .int .i64 u1, .int .i64 u2, .int .i64 u3, .int .i64 u4, .int .i64 u5, .int .i64 u6, .string u7] 58)) (.cells #[.int .i64 f0, .int .i64 f1, .string k1, .string k2] 60)
    have e : (w.alloc (.cells #[.int .i64 u0, .int .i64 u1, .int .i64 u2, .int .i64 u3, .int .i64 u4, .int .i64 u5, .int .i64 u6, .string u7] 58)).heap.size = w.heap.size + 1 := by simp
    rw [e] at this
    exact this
  have hW : Below w.heap.size w ((w.alloc (.cells #[.int .i64 u0, .int .i64 u1, .int .i64 u2, .int .i64 u3, .int .i64 u4, .int .i64 u5, .int .i64 u6, .string u7] 58)).alloc (.cells #[.int .i64 f0, .int .i64 f1, .string k1, .string k2] 60)) := ((Below.refl _ _).alloc (Nat.le_refl _) _).alloc (by simp) _
  have hlt : w.heap.size + 1 < ((w.alloc (.cells #[.int .i64 u0, .int .i64 u1, .int .i64 u2, .int .i64 u3, .int .i64 u4, .int .i64 u5, .int .i64 u6, .string u7] 58)).alloc (.cells #[.int .i64 f0, .int .i64 f1, .string k1, .string k2] 60)).heap.size := by simp
  generalize ((w.alloc (.cells #[.int .i64 u0, .int .i64 u1, .int .i64 u2, .int .i64 u3, .int .i64 u4, .int .i64 u5, .int .i64 u6, .string u7] 58)).alloc (.cells #[.int .i64 f0, .int .i64 f1, .string k1, .string k2] 60)) = wb at hB hF hW hlt ⊢
  have HB : Hid (wb.heap[w.heap.size]? = some (.cells #[.int .i64 u0, .int .i64 u1, .int .i64 u2, .int .i64 u3, .int .i64 u4, .int .i64 u5, .int .i64 u6, .string u7] 58)) := hB
  have HF : Hid (wb.heap[w.heap.size + 1]? = some (.cells #[.int .i64 f0, .int .i64 f1, .string k1, .string k2] 60)) := hF
  have HW : Hid (Below w.heap.size w wb) := hW
  have su0 : wb.cell? ⟨w.heap.size, 0, none⟩ = some (.int .i64 u0) := cell_of_row wb _ 0 _ _ _ hB
  have su1 : wb.cell? ⟨w.heap.size, 1, none⟩ = some (.int .i64 u1) := cell_of_row wb _ 1 _ _ _ hB
  have su2 : wb.cell? ⟨w.heap.size, 2, none⟩ = some (.int .i64 u2) := cell_of_row wb _ 2 _ _ _ hB
  have su3 : wb.cell? ⟨w.heap.size, 3, none⟩ = some (.int .i64 u3) := cell_of_row wb _ 3 _ _ _ hB
  have su4 : wb.cell? ⟨w.heap.size, 4, none⟩ = some (.int .i64 u4) := cell_of_row wb _ 4 _ _ _ hB
  have su5 : wb.cell? ⟨w.heap.size, 5, none⟩ = some (.int .i64 u5) := cell_of_row wb _ 5 _ _ _ hB
  have su6 : wb.cell? ⟨w.heap.size, 6, none⟩ = some (.int .i64 u6) := cell_of_row wb _ 6 _ _ _ hB
  have su7 : wb.cell? ⟨w.heap.size, 7, none⟩ = some (.string u7) := cell_of_row wb _ 7 _ _ _ hB
  clear hB hF hW
  go_upto_region 5 with (first | (go_at_call 41; go_loud (with_reducible refine (c0 _).mono ?_); rintro e w1 ⟨rfl, hb1⟩; have hl1 : w.heap.size < w1.heap.size := (by have := hb1.size; omega); have hl2' : w.heap.size + 1 < w1.heap.size := (by have := hb1.size; omega); have m0 := (hb1.cell (p := ⟨w.heap.size, 0, none⟩) (by show w.heap.size < _; omega)).trans su0; have m1 := (hb1.cell (p := ⟨w.heap.size, 1, none⟩) (by show w.heap.size < _; omega)).trans su1; have m2 := (hb1.cell (p := ⟨w.heap.size, 2, none⟩) (by show w.heap.size < _; omega)).trans su2; have m3 := (hb1.cell (p := ⟨w.heap.size, 3, none⟩) (by show w.heap.size < _; omega)).trans su3; have m4 := (hb1.cell (p := ⟨w.heap.size, 4, none⟩) (by show w.heap.size < _; omega)).trans su4; have m5 := (hb1.cell (p := ⟨w.heap.size, 5, none⟩) (by show w.heap.size < _; omega)).trans su5; have m6 := (hb1.cell (p := ⟨w.heap.size, 6, none⟩) (by show w.heap.size < _; omega)).trans su6; have m7 := (hb1.cell (p := ⟨w.heap.size, 7, none⟩) (by show w.heap.size < _; omega)).trans su7))
  have hsz1 := hb1.size
  have hBx : (((w1.alloc (.cells #[.int .i64 0, .int .i64 x0, .int .i64 x1, .int .i64 y] 48)).alloc (.cells #[.int .i64 1, .int .i64 x2, .int .i64 (cp : Int), .int .i64 0] 48)).alloc (.cells #[.int .i64 0, .int .i64 x0, .int .i64 x1, .int .i64 y] 48)).heap[w.heap.size]? = some (.cells #[.int .i64 u0, .int .i64 u1, .int .i64 u2, .int .i64 u3, .int .i64 u4, .int .i64 u5, .int .i64 u6, .string u7] 58) := ((Below.heap_alloc _ _ _ (by simp; omega)).trans ((Below.heap_alloc _ _ _ (by simp; omega)).trans (Below.heap_alloc _ _ _ (by omega)))).trans ((hb1.block w.heap.size (by omega)).trans HB.out)
  have hFx : (((w1.alloc (.cells #[.int .i64 0, .int .i64 x0, .int .i64 x1, .int .i64 y] 48)).alloc (.cells #[.int .i64 1, .int .i64 x2, .int .i64 (cp : Int), .int .i64 0] 48)).alloc (.cells #[.int .i64 0, .int .i64 x0, .int .i64 x1, .int .i64 y] 48)).heap[w.heap.size + 1]? = some (.cells #[.int .i64 f0, .int .i64 f1, .string k1, .string k2] 60) := ((Below.heap_alloc _ _ _ (by simp; omega)).trans ((Below.heap_alloc _ _ _ (by simp; omega)).trans (Below.heap_alloc _ _ _ (by omega)))).trans ((hb1.block (w.heap.size + 1) hlt).trans HF.out)
  have hCx : (((w1.alloc (.cells #[.int .i64 0, .int .i64 x0, .int .i64 x1, .int .i64 y] 48)).alloc (.cells #[.int .i64 1, .int .i64 x2, .int .i64 (cp : Int), .int .i64 0] 48)).alloc (.cells #[.int .i64 0, .int .i64 x0, .int .i64 x1, .int .i64 y] 48)).heap[w1.heap.size + 1 + 1]? = some (.cells #[.int .i64 0, .int .i64 x0, .int .i64 x1, .int .i64 y] 48) := by
    have := heap_alloc_new ((w1.alloc (.cells #[.int .i64 0, .int .i64 x0, .int .i64 x1, .int .i64 y] 48)).alloc (.cells #[.int .i64 1, .int .i64 x2, .int .i64 (cp : Int), .int .i64 0] 48)) (.cells #[.int .i64 0, .int .i64 x0, .int .i64 x1, .int .i64 y] 48)
    have e : ((w1.alloc (.cells #[.int .i64 0, .int .i64 x0, .int .i64 x1, .int .i64 y] 48)).alloc (.cells #[.int .i64 1, .int .i64 x2, .int .i64 (cp : Int), .int .i64 0] 48)).heap.size = w1.heap.size + 1 + 1 := by simp
    rw [e] at this
    exact this
  have hDx : (((w1.alloc (.cells #[.int .i64 0, .int .i64 x0, .int .i64 x1, .int .i64 y] 48)).alloc (.cells #[.int .i64 1, .int .i64 x2, .int .i64 (cp : Int), .int .i64 0] 48)).alloc (.cells #[.int .i64 0, .int .i64 x0, .int .i64 x1, .int .i64 y] 48)).heap[w1.heap.size + 1]? = some (.cells #[.int .i64 1, .int .i64 x2, .int .i64 (cp : Int), .int .i64 0] 48) := by
    refine (Below.heap_alloc _ _ _ (by simp)).trans ?_
    have := heap_alloc_new (w1.alloc (.cells #[.int .i64 0, .int .i64 x0, .int .i64 x1, .int .i64 y] 48)) (.cells #[.int .i64 1, .int .i64 x2, .int .i64 (cp : Int), .int .i64 0] 48)
    have e : (w1.alloc (.cells #[.int .i64 0, .int .i64 x0, .int .i64 x1, .int .i64 y] 48)).heap.size = w1.heap.size + 1 := by simp
    rw [e] at this
    exact this
  have hWx : Below w.heap.size w (((w1.alloc (.cells #[.int .i64 0, .int .i64 x0, .int .i64 x1, .int .i64 y] 48)).alloc (.cells #[.int .i64 1, .int .i64 x2, .int .i64 (cp : Int), .int .i64 0] 48)).alloc (.cells #[.int .i64 0, .int .i64 x0, .int .i64 x1, .int .i64 y] 48)) := (((below_tr HW.out hb1).alloc (by omega) _).alloc (by simp; omega) _).alloc (by simp; omega) _
  have hltx : w1.heap.size + 1 + 1 < (((w1.alloc (.cells #[.int .i64 0, .int .i64 x0, .int .i64 x1, .int .i64 y] 48)).alloc (.cells #[.int .i64 1, .int .i64 x2, .int .i64 (cp : Int), .int .i64 0] 48)).alloc (.cells #[.int .i64 0, .int .i64 x0, .int .i64 x1, .int .i64 y] 48)).heap.size := by simp
  have hCl : w.heap.size + 1 < w1.heap.size + 1 + 1 := by omega
  have hDl : w1.heap.size + 1 < w1.heap.size + 1 + 1 := by omega
  have hDl2 : w.heap.size + 1 < w1.heap.size + 1 := by omega
  generalize (((w1.alloc (.cells #[.int .i64 0, .int .i64 x0, .int .i64 x1, .int .i64 y] 48)).alloc (.cells #[.int .i64 1, .int .i64 x2, .int .i64 (cp : Int), .int .i64 0] 48)).alloc (.cells #[.int .i64 0, .int .i64 x0, .int .i64 x1, .int .i64 y] 48)) = wx at hBx hFx hCx hDx hWx hltx ⊢
  generalize w1.heap.size + 1 + 1 = CB at hCx hltx hCl hDl ⊢
  generalize w1.heap.size + 1 = DB at hDx hDl hDl2 ⊢
  have HBx : Hid (wx.heap[w.heap.size]? = some (.cells #[.int .i64 u0, .int .i64 u1, .int .i64 u2, .int .i64 u3, .int .i64 u4, .int .i64 u5, .int .i64 u6, .string u7] 58)) := hBx
  have HFx : Hid (wx.heap[w.heap.size + 1]? = some (.cells #[.int .i64 f0, .int .i64 f1, .string k1, .string k2] 60)) := hFx
  have HCx : Hid (wx.heap[CB]? = some (.cells #[.int .i64 0, .int .i64 x0, .int .i64 x1, .int .i64 y] 48)) := hCx
  have HWx : Hid (Below w.heap.size w wx) := hWx
  clear su0 su1 su2 su3 su4 su5 su6 su7 m0 m1 m2 m3 m4 m5 m6 m7 hb1 HB HF HW c0
  have su0 : wx.cell? ⟨w.heap.size, 0, none⟩ = some (.int .i64 u0) := cell_of_row wx _ 0 _ _ _ hBx
  have su1 : wx.cell? ⟨w.heap.size, 1, none⟩ = some (.int .i64 u1) := cell_of_row wx _ 1 _ _ _ hBx
  have su2 : wx.cell? ⟨w.heap.size, 2, none⟩ = some (.int .i64 u2) := cell_of_row wx _ 2 _ _ _ hBx
  have su3 : wx.cell? ⟨w.heap.size, 3, none⟩ = some (.int .i64 u3) := cell_of_row wx _ 3 _ _ _ hBx
  have su4 : wx.cell? ⟨w.heap.size, 4, none⟩ = some (.int .i64 u4) := cell_of_row wx _ 4 _ _ _ hBx
  have su5 : wx.cell? ⟨w.heap.size, 5, none⟩ = some (.int .i64 u5) := cell_of_row wx _ 5 _ _ _ hBx
  have su6 : wx.cell? ⟨w.heap.size, 6, none⟩ = some (.int .i64 u6) := cell_of_row wx _ 6 _ _ _ hBx
  have su7 : wx.cell? ⟨w.heap.size, 7, none⟩ = some (.string u7) := cell_of_row wx _ 7 _ _ _ hBx
  have n0 : wx.cell? ⟨CB, 0, none⟩ = some (.int .i64 0) := cell_of_row wx _ 0 _ _ _ hCx
  have n1 : wx.cell? ⟨CB, 1, none⟩ = some (.int .i64 x0) := cell_of_row wx _ 1 _ _ _ hCx
  have n2 : wx.cell? ⟨CB, 2, none⟩ = some (.int .i64 x1) := cell_of_row wx _ 2 _ _ _ hCx
  have n3 : wx.cell? ⟨CB, 3, none⟩ = some (.int .i64 y) := cell_of_row wx _ 3 _ _ _ hCx
  have o0 : wx.cell? ⟨DB, 0, none⟩ = some (.int .i64 1) := cell_of_row wx _ 0 _ _ _ hDx
  have o1 : wx.cell? ⟨DB, 1, none⟩ = some (.int .i64 x2) := cell_of_row wx _ 1 _ _ _ hDx
  have o2 : wx.cell? ⟨DB, 2, none⟩ = some (.int .i64 (cp : Int)) := cell_of_row wx _ 2 _ _ _ hDx
  have o3 : wx.cell? ⟨DB, 3, none⟩ = some (.int .i64 0) := cell_of_row wx _ 3 _ _ _ hDx
  have fC : ∀ j, wx.frozen? ⟨CB, j, none⟩ = false := fun j => frozen_of_row wx _ j _ _ hCx
  have ne1 : ¬ w.heap.size = CB := by omega
  have ne2 : ¬ CB = w.heap.size := by omega
  have ne3 : ¬ DB = CB := by omega
  have ne4 : ¬ CB = DB := by omega
  clear hBx hFx hCx hWx hDx
  go_upto_region 9 with fail
  have hC3 : ((((wx.setCell ⟨CB, 0, none⟩ (.int .i64 1)).setCell ⟨CB, 1, none⟩ (.int .i64 x2)).setCell ⟨CB, 2, none⟩ (.int .i64 (cp : Int))).setCell ⟨CB, 3, none⟩ (.int .i64 0)).heap[CB]? = some (.cells #[.int .i64 1, .int .i64 x2, .int .i64 (cp : Int), .int .i64 0] 48) := (heap_setCell_same _ _ _ _ _ _ (heap_setCell_same _ _ _ _ _ _ (heap_setCell_same _ _ _ _ _ _ (heap_setCell_same _ _ _ _ _ _ HCx.out))))
  have hB3 : ((((wx.setCell ⟨CB, 0, none⟩ (.int .i64 1)).setCell ⟨CB, 1, none⟩ (.int .i64 x2)).setCell ⟨CB, 2, none⟩ (.int .i64 (cp : Int))).setCell ⟨CB, 3, none⟩ (.int .i64 0)).heap[w.heap.size]? = some (.cells #[.int .i64 u0, .int .i64 u1, .int .i64 u2, .int .i64 u3, .int .i64 u4, .int .i64 u5, .int .i64 u6, .string u7] 58) := ((heap_setCell_other _ _ _ _ (by show w.heap.size ≠ CB; omega)).trans ((heap_setCell_other _ _ _ _ (by show w.heap.size ≠ CB; omega)).trans ((heap_setCell_other _ _ _ _ (by show w.heap.size ≠ CB; omega)).trans ((heap_setCell_other _ _ _ _ (by show w.heap.size ≠ CB; omega)).trans HBx.out))))
  have hF3 : ((((wx.setCell ⟨CB, 0, none⟩ (.int .i64 1)).setCell ⟨CB, 1, none⟩ (.int .i64 x2)).setCell ⟨CB, 2, none⟩ (.int .i64 (cp : Int))).setCell ⟨CB, 3, none⟩ (.int .i64 0)).heap[w.heap.size + 1]? = some (.cells #[.int .i64 f0, .int .i64 f1, .string k1, .string k2] 60) := ((heap_setCell_other _ _ _ _ (by show w.heap.size + 1 ≠ CB; omega)).trans ((heap_setCell_other _ _ _ _ (by show w.heap.size + 1 ≠ CB; omega)).trans ((heap_setCell_other _ _ _ _ (by show w.heap.size + 1 ≠ CB; omega)).trans ((heap_setCell_other _ _ _ _ (by show w.heap.size + 1 ≠ CB; omega)).trans HFx.out))))
  have hW3 : Below w.heap.size w ((((wx.setCell ⟨CB, 0, none⟩ (.int .i64 1)).setCell ⟨CB, 1, none⟩ (.int .i64 x2)).setCell ⟨CB, 2, none⟩ (.int .i64 (cp : Int))).setCell ⟨CB, 3, none⟩ (.int .i64 0)) := (Below.setCell (Below.setCell (Below.setCell (Below.setCell HWx.out (by show w.heap.size ≤ CB; omega) _) (by show w.heap.size ≤ CB; omega) _) (by show w.heap.size ≤ CB; omega) _) (by show w.heap.size ≤ CB; omega) _)
  have hl3 : CB < ((((wx.setCell ⟨CB, 0, none⟩ (.int .i64 1)).setCell ⟨CB, 1, none⟩ (.int .i64 x2)).setCell ⟨CB, 2, none⟩ (.int .i64 (cp : Int))).setCell ⟨CB, 3, none⟩ (.int .i64 0)).heap.size := by simpa using hltx
  clear HBx HFx HCx HWx su0 su1 su2 su3 su4 su5 su6 su7 n0 n1 n2 n3 o0 o1 o2 o3 fC hltx
  generalize ((((wx.setCell ⟨CB, 0, none⟩ (.int .i64 1)).setCell ⟨CB, 1, none⟩ (.int .i64 x2)).setCell ⟨CB, 2, none⟩ (.int .i64 (cp : Int))).setCell ⟨CB, 3, none⟩ (.int .i64 0)) = wx at hC3 hB3 hF3 hW3 hl3 ⊢
  have hltx := hl3
  have HBx : Hid (wx.heap[w.heap.size]? = some (.cells #[.int .i64 u0, .int .i64 u1, .int .i64 u2, .int .i64 u3, .int .i64 u4, .int .i64 u5, .int .i64 u6, .string u7] 58)) := hB3
  have HFx : Hid (wx.heap[w.heap.size + 1]? = some (.cells #[.int .i64 f0, .int .i64 f1, .string k1, .string k2] 60)) := hF3
  have HCx : Hid (wx.heap[CB]? = some (.cells #[.int .i64 1, .int .i64 x2, .int .i64 (cp : Int), .int .i64 0] 48)) := hC3
  have HWx : Hid (Below w.heap.size w wx) := hW3
  have su0 : wx.cell? ⟨w.heap.size, 0, none⟩ = some (.int .i64 u0) := cell_of_row wx _ 0 _ _ _ hB3
  have su1 : wx.cell? ⟨w.heap.size, 1, none⟩ = some (.int .i64 u1) := cell_of_row wx _ 1 _ _ _ hB3
  have su2 : wx.cell? ⟨w.heap.size, 2, none⟩ = some (.int .i64 u2) := cell_of_row wx _ 2 _ _ _ hB3
  have su3 : wx.cell? ⟨w.heap.size, 3, none⟩ = some (.int .i64 u3) := cell_of_row wx _ 3 _ _ _ hB3
  have su4 : wx.cell? ⟨w.heap.size, 4, none⟩ = some (.int .i64 u4) := cell_of_row wx _ 4 _ _ _ hB3
  have su5 : wx.cell? ⟨w.heap.size, 5, none⟩ = some (.int .i64 u5) := cell_of_row wx _ 5 _ _ _ hB3
  have su6 : wx.cell? ⟨w.heap.size, 6, none⟩ = some (.int .i64 u6) := cell_of_row wx _ 6 _ _ _ hB3
  have su7 : wx.cell? ⟨w.heap.size, 7, none⟩ = some (.string u7) := cell_of_row wx _ 7 _ _ _ hB3
  have n0 : wx.cell? ⟨CB, 0, none⟩ = some (.int .i64 1) := cell_of_row wx _ 0 _ _ _ hC3
  have n1 : wx.cell? ⟨CB, 1, none⟩ = some (.int .i64 x2) := cell_of_row wx _ 1 _ _ _ hC3
  have n2 : wx.cell? ⟨CB, 2, none⟩ = some (.int .i64 (cp : Int)) := cell_of_row wx _ 2 _ _ _ hC3
  have n3 : wx.cell? ⟨CB, 3, none⟩ = some (.int .i64 0) := cell_of_row wx _ 3 _ _ _ hC3
  clear hC3 hB3 hF3 hW3
  go_upto_region 12 with (first | (go_at_call 42; go_loud (with_reducible refine (c1 _).mono ?_); rintro e w2 ⟨rfl, hb2⟩))
  have hsz2 := hb2.size
  have HF2 : Hid (w2.heap[w.heap.size + 1]? = some (.cells #[.int .i64 f0, .int .i64 f1, .string k1, .string k2] 60)) := (hb2.block (w.heap.size + 1) (by omega)).trans HFx.out
  have HW2 : Hid (Below w.heap.size w w2) := below_tr HWx.out hb2
  have hB2 := (hb2.block w.heap.size (by omega)).trans HBx.out
  have hC2 := (hb2.block CB (by omega)).trans HCx.out
  clear su0 su1 su2 su3 su4 su5 su6 su7 n0 n1 n2 n3 HBx HFx HCx HWx c1
  have su6 : w2.cell? ⟨w.heap.size, 6, none⟩ = some (.int .i64 u6) := cell_of_row w2 _ 6 _ _ _ hB2
  have su7 : w2.cell? ⟨w.heap.size, 7, none⟩ = some (.string u7) := cell_of_row w2 _ 7 _ _ _ hB2
  have n0 : w2.cell? ⟨CB, 0, none⟩ = some (.int .i64 1) := cell_of_row w2 _ 0 _ _ _ hC2
  have n1 : w2.cell? ⟨CB, 1, none⟩ = some (.int .i64 x2) := cell_of_row w2 _ 1 _ _ _ hC2
  have n2 : w2.cell? ⟨CB, 2, none⟩ = some (.int .i64 (cp : Int)) := cell_of_row w2 _ 2 _ _ _ hC2
  have n3 : w2.cell? ⟨CB, 3, none⟩ = some (.int .i64 0) := cell_of_row w2 _ 3 _ _ _ hC2
  have hl2 : CB < w2.heap.size := by omega
  clear hB2 hC2 hb2 hsz2 hsz1
  go_upto_region 13 with (first | (go_at_call 43; go_loud (with_reducible refine (c2 _).mono ?_); rintro e w' ⟨rfl, hw⟩; rw [hw]; clear hw w'))
  go_cut [14, 15] (fun x14 x15 wy => x14 = .string pl ∧ x15 = .int .i64 0 ∧ Below w2.heap.size w2 wy)
  case first =>
    go_region_held3 (fun w' => w'.cell? ⟨CB, 0, none⟩ = some (.int .i64 1) ∧ w'.cell? ⟨CB, 1, none⟩ = some (.int .i64 x2) ∧ w'.cell? ⟨CB, 2, none⟩ = some (.int .i64 (cp : Int)) ∧ w'.cell? ⟨CB, 3, none⟩ = some (.int .i64 0) ∧ w'.cell? ⟨w.heap.size, 7, none⟩ = some (.string u7)) (first | (simp [n0, n1, n2, n3, su7]; done) | (simp [g0', g1', g2', g3', g7']; done)) (first | (go_at_call 26; go_must (with_reducible refine (c3 _).mono ?_); rintro e w' ⟨rfl, hw⟩; rw [hw]; clear hw w') | (go_at_call 25; go_must (with_reducible refine (c4 _).mono ?_); rintro e w' ⟨rfl, hw⟩; rw [hw]; clear hw w') | (go_at_call 35; go_must (with_reducible refine (c5 _).mono ?_); rintro e w3 ⟨rfl, hb3⟩; have hb3' : Below w2.heap.size w2 w3 := ⟨hb3.os, hb3.tape, hb3.output, hb3.size, hb3.block⟩; have g0' := (hb3'.cell (p := ⟨CB, 0, none⟩) hl2).trans n0; have g1' := (hb3'.cell (p := ⟨CB, 1, none⟩) hl2).trans n1; have g2' := (hb3'.cell (p := ⟨CB, 2, none⟩) hl2).trans n2; have g3' := (hb3'.cell (p := ⟨CB, 3, none⟩) hl2).trans n3; have g7' := (hb3'.cell (p := ⟨w.heap.size, 7, none⟩) (by show w.heap.size < _; omega)).trans su7; clear hb3'))
    all_goals (go_wp2_with fail)
    all_goals go_meet
    all_goals exact ⟨rfl, rfl, ⟨hb3.os, hb3.tape, hb3.output, hb3.size, hb3.block⟩⟩
  case rest =>
    obtain ⟨rfl, rfl, hb3⟩ := hcut
    have hF3 := (hb3.block (w.heap.size + 1) (by omega)).trans HF2.out
    have HW3 : Hid (Below w.heap.size w wc) := below_tr HW2.out hb3
    have q0 : wc.cell? ⟨w.heap.size + 1, 0, none⟩ = some (.int .i64 f0) := cell_of_row wc _ 0 _ _ _ hF3
    have q1 : wc.cell? ⟨w.heap.size + 1, 1, none⟩ = some (.int .i64 f1) := cell_of_row wc _ 1 _ _ _ hF3
    have q2 : wc.cell? ⟨w.heap.size + 1, 2, none⟩ = some (.string k1) := cell_of_row wc _ 2 _ _ _ hF3
    have q3 : wc.cell? ⟨w.heap.size + 1, 3, none⟩ = some (.string k2) := cell_of_row wc _ 3 _ _ _ hF3
    clear hb3 hF3 HF2 HW2 n0 n1 n2 n3 su6 su7 c2 c3 c4 c5
    go_upto_region 15 with (first | (go_at_call 44; go_loud (with_reducible refine (c6' _).mono ?_); rintro e w4 ⟨⟨xx, hxx, rfl⟩, hb4⟩))
    have HW4 : Hid (Below w.heap.size w w4) := below_tr HW3.out hb4
    clear hb4 HW3 q0 q1 q2 q3 c6'
    rcases hxx with rfl | rfl
    · go_wp2_with (first | (go_at_call 45; go_loud (with_reducible refine (cl1 _).mono ?_); rintro e w5 ⟨rfl, hb5⟩))
      go_ret
      exact ⟨rfl, below_tr HW4.out (hb5.alloc hb5.size _)⟩
    · go_wp2_with (first | (go_at_call 45; go_loud (with_reducible refine (cl2 _).mono ?_); rintro e w5 ⟨rfl, hb5⟩))
      go_ret
      exact ⟨rfl, below_tr HW4.out (hb5.alloc hb5.size _)⟩
theorem born_walk (b0_0 b0_1 b0_2 b0_3 b0_4 b0_5 b0_6 : Int) (b0_7 : ByteArray) (a1 : Bool) (b2_0 b2_1 : Int) (b2_2 b2_3 : ByteArray) (w0_0 : (Lit.int .i64 b0_0).wf = true) (w0_1 : (Lit.int .i64 b0_1).wf = true) (w0_2 : (Lit.int .i64 b0_2).wf = true) (w0_3 : (Lit.int .i64 b0_3).wf = true) (w0_4 : (Lit.int .i64 b0_4).wf = true) (w0_5 : (Lit.int .i64 b0_5).wf = true) (w0_6 : (Lit.int .i64 b0_6).wf = true) (w0_7 : b0_7.size ≤ maxLen) (w2_0 : (Lit.int .i64 b2_0).wf = true) (w2_1 : (Lit.int .i64 b2_1).wf = true) (w2_2 : b2_2.size ≤ maxLen) (w2_3 : b2_3.size ≤ maxLen) (w : World) :
    Calls Try.prog 11 #[.agg #[.int .i64 b0_0, .int .i64 b0_1, .int .i64 b0_2, .int .i64 b0_3, .int .i64 b0_4, .int .i64 b0_5, .int .i64 b0_6, .string b0_7], .bool a1, .agg #[.int .i64 b2_0, .int .i64 b2_1, .string b2_2, .string b2_3]] w fun e w' => e = .returned (.bool true) ∧ Below w.heap.size w w' := by
  cases a1 with
  | false => exact born_one b0_0 b0_1 b0_2 b0_3 b0_4 b0_5 b0_6 b0_7 b2_0 b2_1 b2_2 b2_3 (wf_i64 w0_0) (wf_i64 w0_1) (wf_i64 w0_2) (wf_i64 w0_3) (wf_i64 w0_4) (wf_i64 w0_5) (wf_i64 w0_6) w0_7 (wf_i64 w2_0) (wf_i64 w2_1) w2_2 w2_3 w
  | true => exact born_two b0_0 b0_1 b0_2 b0_3 b0_4 b0_5 b0_6 b0_7 b2_0 b2_1 b2_2 b2_3 (wf_i64 w0_0) (wf_i64 w0_1) (wf_i64 w0_2) (wf_i64 w0_3) (wf_i64 w0_4) (wf_i64 w0_5) (wf_i64 w0_6) w0_7 (wf_i64 w2_0) (wf_i64 w2_1) w2_2 w2_3 w
end Go.Proofs.Ytabpkohcimiceaa
