import Derived.Test.YtabpkohcimiceaaTwoB
namespace Go.Proofs.Ytabpkohcimiceaa
set_option maxRecDepth 100000
set_option maxHeartbeats 1000000
open Go.RowKit
set_option linter.unusedVariables false
set_option linter.unusedSimpArgs false
attribute [local go_sem] str_two_size
theorem bkept_any (s : StM) (pe : Int) (aa : Option Addr) (cc : Nat) (w : World) (hv : IdsAt w (.slice aa s.kept.length cc) s.kept) (hl : s.kept.length ≤ 255) (hk : ∀ e ∈ s.kept, e.step ≤ 255 ∧ e.count ≤ 255) :
    Calls Try.prog 105 #[.agg #[.int .i64 s.role, .int .i64 s.step, .int .i64 s.sent, .int .i64 s.got, .int .i64 s.prev, .int .i64 s.skip, .int .i64 s.cap, .int .i64 s.secret, .int .i64 pe, .slice aa s.kept.length cc]] w fun e w' => e = .returned (.string (str (lettersL s.kept))) ∧ Below w.heap.size w w' := by
  obtain ⟨l, hll⟩ : ∃ l, l = s.kept := ⟨_, rfl⟩
  rw [← hll] at hv hl hk ⊢
  clear hll
  go_enter Try.func105, Try.ntmps105
  go_upto_region 1 with fail
  obtain ⟨ob, eob⟩ : ∃ ob, ob = Obj.cells #[.int .i64 s.role, .int .i64 s.step, .int .i64 s.sent, .int .i64 s.got, .int .i64 s.prev, .int .i64 s.skip, .int .i64 s.cap, .int .i64 s.secret, .int .i64 pe, .slice aa l.length cc] 140 := ⟨_, rfl⟩
  rw [← eob]; have hB := heap_alloc_new w ob; have hW : Below w.heap.size w (w.alloc ob) := (Below.refl _ _).alloc (Nat.le_refl _) _
  have hlt : w.heap.size < (w.alloc ob).heap.size := by simp
  generalize (w.alloc ob) = wb at hB hW hlt ⊢
  subst eob; have HB := hid hB; have HW := hid hW; have HV := hid (hv.next hW); clear hB hW hv; go_wp2
  go_loopg [3, 4] (l.length + 1) (fun g t c wr => ∃ i : Nat, ∃ m : ByteArray, c = .int .i64 i ∧ t = .string m ∧ i ≤ l.length ∧ g + i = l.length + 1 ∧ m.size = 2 * i ∧ m = str (lettersL (l.take i)) ∧ Below wb.heap.size wb wr)
  case atStart => exact ⟨0, _, rfl, rfl, by omega, by omega, rfl, rfl, Below.refl _ _⟩
  case round =>
    obtain ⟨i, m, rfl, rfl, hi, hg, hms, hm, hbr⟩ := hrel; have HM := hid hm; have HMS := hid hms
    have hmb : m.size ≤ 1000 := by omega
    have HR := hid hbr; have hBr := (hbr.block w.heap.size hlt).trans HB.out; have k9 : wr.cell? ⟨w.heap.size, 9, none⟩ = some (.slice aa l.length cc) := cell_of_row wr _ 9 _ _ _ hBr; have hv2 := HV.out.next hbr
    have hBlt : w.heap.size < wr.heap.size := by have := hbr.size; omega
    clear hm hbr hBr hms
    by_cases hlt2 : i < l.length
    · obtain ⟨b, off, hv', hgs, e0, e1⟩ := hv2.at hlt2; subst hv'
      obtain ⟨k1, k2⟩ := hk (l.getD i default) (by rw [List.getD_eq_getElem?_getD, List.getElem?_eq_getElem hlt2]; exact List.getElem_mem _)
      have het := lettersL_take l i hlt2
      generalize l.getD i default = en at e0 e1 k1 k2 het
      have HT := hid het
      have hil : (i : Int) < (l.length : Int) := by omega
      have kc := conv2d; have hw1 := wrap_u8 en.step k1; have hw2 := wrap_u8 en.count k2
      have r3 : ¬ 9223372036854775807 < m.size + 2 := by omega
      have i0 : (0 : Int) ≤ (i : Int) := by omega
      clear het hv2
      go_upto_region 5 with fail
      go_region
      go_wp2
      go_roundg (gk - 1)
      case measure => omega
      case rel =>
        have e : m ++ str [UInt8.ofNat en.step, UInt8.ofNat en.count] = str (lettersL (l.take (i + 1))) := by
          rw [HM.out, str_append, HT.out]
        have ez : (m ++ str [UInt8.ofNat en.step, UInt8.ofNat en.count]).size = 2 * (i + 1) := by
          rw [ByteArray.size_append, HMS.out, str_two_size]; omega
        refine ⟨i + 1, m ++ str [UInt8.ofNat en.step, UInt8.ofNat en.count], by simp, rfl, by omega, by omega, ez, e, ?_⟩
        have hr := HR.out
        repeat (first | exact hr | apply Below.drew | (refine Below.alloc ?_ (by have := hr.size; first | omega | (simp; omega)) _))
    · obtain rfl : i = l.length := by omega
      clear hv2; go_wp2; go_ret
      refine ⟨?_, below_tr HW.out HR.out⟩
      show Ending.returned (Value.string m) = _
      rw [HM.out, List.take_length]
theorem told_far (P : Nat) (d : ByteArray) (k : Nat) (s : StM) (pe : Int) (aa : Option Addr) (cc : Nat) (vl : Value) (w : World) (hP : w.heap[P]? = some (.cells #[.string d, .int .i64 s.role, .int .i64 s.step, .int .i64 s.sent, .int .i64 s.got, .int .i64 s.prev, .int .i64 s.skip, .int .i64 s.cap, .int .i64 s.secret, .int .i64 pe, .slice aa s.kept.length cc, vl] 143)) (hg : GoodD d.data.toList k) (hs : heldS d.data.toList = s) (hv : IdsAt w (.slice aa s.kept.length cc) s.kept) (hpe1 : pe ≠ 0) (hpe2 : shOut pe 7 = (s.peer : Int)) :
    Calls Try.prog 49 #[.pointer (some ⟨P, 0, none⟩)] w fun e w' => e = .returned (.bool true) ∧ Below w.heap.size w w' := by
  have hds : d.size = k * 32 := by rw [← len_list]; exact hg.len
  have hk2 := hg.k2
  have hdm : d.size ≤ maxLen := by unfold maxLen; omega
  have hq := (good_lawQ hg).1
  rw [hs] at hq
  have hkc := hg.kept
  rw [hs] at hkc
  have hcap := hq.cap
  have c1 := fun w => look_any d w hdm
  rw [lookV, good_open hg, if_pos rfl, hs] at c1
  unfold viewCells at c1
  have hsec := hq.sec
  have c2 := fun w => pawlPublic_any (s.secret : Int) w
  have e1 : shOut (s.secret : Int) 7 = (pwN 7 s.secret : Int) := by
    rw [shOut, if_pos ⟨hsec, by unfold Pub; omega⟩, pw, Int.toNat_natCast]; rfl
  have e2 : shErr (s.secret : Int) 7 = 0 := by
    rw [shErr, if_pos ⟨hsec, by unfold Pub; omega⟩]
  rw [e1, e2] at c2
  have c3 := fun w => pawlPublic_any pe w
  rw [hpe2] at c3
  have hpe0 : (pe == 0) = false := by rw [beq_eq_false_iff_ne]; exact hpe1
  have hpe9 : (pe != 0) = true := by rw [bne, hpe0]; rfl
  have c4 := fun w hv => bkept_any s pe aa cc w hv (by omega) (fun e he => by
    obtain ⟨a1, a2, a3, a4, _⟩ := hq.keys.lo e he
    have := hq.step
    exact ⟨by omega, by omega⟩)
  have hve := view_eql (s.role : Int) (s.step : Int) (s.sent : Int) (s.got : Int) (s.prev : Int) (s.skip : Int) (s.cap : Int) (pwN 7 s.secret : Int) (s.peer : Int) (str (lettersL s.kept)); clear e1 e2 hsec hkc hcap hq hs hg
  generalize str (lettersL s.kept) = kl at *
  generalize (pwN 7 s.secret : Int) = pb at *
  have hPlt := blk_lt hP; have p0 : w.cell? ⟨P, 0, none⟩ = some (.string d) := cell_of_row w _ 0 _ _ _ hP; have HP := hid hP; have HV := hid hv; clear hP hv; have tok1 : True := trivial
  go_enter Try.func49, Try.ntmps49
  go_upto_region 2 with (first | (go_at_call 45; (with_reducible refine (c1 _).mono ?_); rintro e w1 ⟨rfl, hb1⟩))
  have hsz1 := hb1.size
  obtain ⟨ob, eob⟩ : ∃ ob, ob = Obj.cells #[.int .i64 s.role, .int .i64 s.step, .int .i64 s.sent, .int .i64 s.got, .int .i64 s.prev, .int .i64 s.skip, .int .i64 s.cap, .int .i64 pb, .int .i64 s.peer, .string kl] 68 := ⟨_, rfl⟩
  rw [← eob]; have hV1 := heap_alloc_new w1 ob; have hA1 : Below w1.heap.size w1 (w1.alloc ob) := (Below.refl _ _).alloc (Nat.le_refl _) _
  have hl1 : w1.heap.size < (w1.alloc ob).heap.size := by simp
  generalize (w1.alloc ob) = w2 at hV1 hA1 hl1 ⊢
  subst eob; have HB2 := hid (below_tr hb1 hA1); have HP2 := hid ((HB2.out.block P hPlt).trans HP.out); have HV2 := hid hV1
  obtain ⟨VA, hVA⟩ : ∃ VA, VA = w1.heap.size := ⟨_, rfl⟩
  rw [← hVA] at HV2 hl1 ⊢
  have hVAw : w.heap.size ≤ VA := by omega
  have hP2 : P < w2.heap.size := by omega
  have HI2 := hid (HV.out.next HB2.out); clear p0 hb1 hA1 hV1 hVA HP HV c1; have p0 : w2.cell? ⟨P, 0, none⟩ = some (.string d) := cell_of_row w2 _ 0 _ _ _ HP2.out; have p1 : w2.cell? ⟨P, 1, none⟩ = some (.int .i64 s.role) := cell_of_row w2 _ 1 _ _ _ HP2.out; have p2 : w2.cell? ⟨P, 2, none⟩ = some (.int .i64 s.step) := cell_of_row w2 _ 2 _ _ _ HP2.out; have p3 : w2.cell? ⟨P, 3, none⟩ = some (.int .i64 s.sent) := cell_of_row w2 _ 3 _ _ _ HP2.out; have p4 : w2.cell? ⟨P, 4, none⟩ = some (.int .i64 s.got) := cell_of_row w2 _ 4 _ _ _ HP2.out; have p5 : w2.cell? ⟨P, 5, none⟩ = some (.int .i64 s.prev) := cell_of_row w2 _ 5 _ _ _ HP2.out; have p6 : w2.cell? ⟨P, 6, none⟩ = some (.int .i64 s.skip) := cell_of_row w2 _ 6 _ _ _ HP2.out; have p7 : w2.cell? ⟨P, 7, none⟩ = some (.int .i64 s.cap) := cell_of_row w2 _ 7 _ _ _ HP2.out; have p8 : w2.cell? ⟨P, 8, none⟩ = some (.int .i64 s.secret) := cell_of_row w2 _ 8 _ _ _ HP2.out; have p9 : w2.cell? ⟨P, 9, none⟩ = some (.int .i64 pe) := cell_of_row w2 _ 9 _ _ _ HP2.out; have p10 : w2.cell? ⟨P, 10, none⟩ = some (.slice aa s.kept.length cc) := cell_of_row w2 _ 10 _ _ _ HP2.out; have p11 : w2.cell? ⟨P, 11, none⟩ = some (vl) := cell_of_row w2 _ 11 _ _ _ HP2.out
  go_upto_region 7 with (first | (go_at_call 17; have _t := tok1; go_must (with_reducible refine (c2 _).mono ?_); rintro e w' ⟨rfl, hw⟩; rw [hw]; clear hw w'; clear tok1) | (go_at_call 17; go_must (with_reducible refine (c3 _).mono ?_); rintro e w' ⟨rfl, hw⟩; rw [hw]; clear hw w'))
  have hB3 := heap_alloc_new w2 (.cells #[.int .i64 s.role, .int .i64 s.step, .int .i64 s.sent, .int .i64 s.got, .int .i64 s.prev, .int .i64 s.skip, .int .i64 s.cap, .int .i64 s.secret, .int .i64 pe, .slice aa s.kept.length cc] 140); have hA3 : Below w2.heap.size w2 (w2.alloc (.cells #[.int .i64 s.role, .int .i64 s.step, .int .i64 s.sent, .int .i64 s.got, .int .i64 s.prev, .int .i64 s.skip, .int .i64 s.cap, .int .i64 s.secret, .int .i64 pe, .slice aa s.kept.length cc] 140)) := (Below.refl _ _).alloc (Nat.le_refl _) _
  have hl3 : w2.heap.size < (w2.alloc (.cells #[.int .i64 s.role, .int .i64 s.step, .int .i64 s.sent, .int .i64 s.got, .int .i64 s.prev, .int .i64 s.skip, .int .i64 s.cap, .int .i64 s.secret, .int .i64 pe, .slice aa s.kept.length cc] 140)).heap.size := by simp
  clear p0 p1 p2 p3 p4 p5 p6 p7 p8 p9 p10 p11
  generalize (w2.alloc (.cells #[.int .i64 s.role, .int .i64 s.step, .int .i64 s.sent, .int .i64 s.got, .int .i64 s.prev, .int .i64 s.skip, .int .i64 s.cap, .int .i64 s.secret, .int .i64 pe, .slice aa s.kept.length cc] 140)) = w3 at hB3 hA3 hl3 ⊢
  obtain ⟨BB, hBB⟩ : ∃ BB, BB = w2.heap.size := ⟨_, rfl⟩
  rw [← hBB] at hB3 hl3 ⊢
  have HB3 := hid hB3; have HV3 := hid ((hA3.block VA hl1).trans HV2.out); have HI3 := hid (HI2.out.next hA3); have HW3 := hid (below_tr HB2.out hA3)
  have hVB : VA < BB := by omega
  clear hBB; obtain ⟨b0, b1, b2, b3, b4, b5, b6, b7, b8, b9⟩ := cells10 hB3; clear hB3 hA3 HV2 HI2 HB2 HP2
  go_upto_region 8 with fail
  have hV4 := heap_alloc_new w3 (.cells #[.int .i64 s.role, .int .i64 s.step, .int .i64 s.sent, .int .i64 s.got, .int .i64 s.prev, .int .i64 s.skip, .int .i64 s.cap, .int .i64 pb, .int .i64 s.peer, .string ⟨#[]⟩] 68); have hA4 : Below w3.heap.size w3 (w3.alloc (.cells #[.int .i64 s.role, .int .i64 s.step, .int .i64 s.sent, .int .i64 s.got, .int .i64 s.prev, .int .i64 s.skip, .int .i64 s.cap, .int .i64 pb, .int .i64 s.peer, .string ⟨#[]⟩] 68)) := (Below.refl _ _).alloc (Nat.le_refl _) _
  have hl4 : w3.heap.size < (w3.alloc (.cells #[.int .i64 s.role, .int .i64 s.step, .int .i64 s.sent, .int .i64 s.got, .int .i64 s.prev, .int .i64 s.skip, .int .i64 s.cap, .int .i64 pb, .int .i64 s.peer, .string ⟨#[]⟩] 68)).heap.size := by simp
  clear b0 b1 b2 b3 b4 b5 b6 b7 b8 b9
  generalize (w3.alloc (.cells #[.int .i64 s.role, .int .i64 s.step, .int .i64 s.sent, .int .i64 s.got, .int .i64 s.prev, .int .i64 s.skip, .int .i64 s.cap, .int .i64 pb, .int .i64 s.peer, .string ⟨#[]⟩] 68)) = w4 at hV4 hA4 hl4 ⊢
  obtain ⟨VB, hVBe⟩ : ∃ VB, VB = w3.heap.size := ⟨_, rfl⟩
  rw [← hVBe] at hV4 hl4 ⊢
  have HV4 := hid hV4
  have HVA4 := hid ((hA4.block VA (by omega)).trans HV3.out)
  have HB4 := hid ((hA4.block BB hl3).trans HB3.out); have HI4 := hid (HI3.out.next hA4); have HW4 := hid (below_tr HW3.out hA4)
  have hVV : VA < VB ∧ BB < VB := by omega
  obtain ⟨b0, b1, b2, b3, b4, b5, b6, b7, b8, b9⟩ := cells10 HB4.out; clear hV4 hA4 HV3 HI3 HB3 HW3 hVBe
  go_upto_region 9 with (first | (go_at_call 105; (with_reducible refine (c4 _ HI4.out).mono ?_); rintro e w5 ⟨rfl, hb5⟩; have hX5 := (hb5.block VB hl4).trans HV4.out; have x9 : w5.cell? ⟨VB, 9, none⟩ = some (.string ⟨#[]⟩) := cell_of_row w5 _ 9 _ _ _ hX5; have fX : ∀ j, w5.frozen? ⟨VB, j, none⟩ = false := fun j => frozen_of_row w5 _ j _ _ hX5; have HX5 := hid hX5; clear hX5))
  have hX6 : (w5.setCell ⟨VB, 9, none⟩ (.string kl)).heap[VB]? = some (.cells #[.int .i64 s.role, .int .i64 s.step, .int .i64 s.sent, .int .i64 s.got, .int .i64 s.prev, .int .i64 s.skip, .int .i64 s.cap, .int .i64 pb, .int .i64 s.peer, .string kl] 68) := heap_setCell_same _ _ _ _ _ _ HX5.out
  have hA6 : (w5.setCell ⟨VB, 9, none⟩ (.string kl)).heap[VA]? = some (.cells #[.int .i64 s.role, .int .i64 s.step, .int .i64 s.sent, .int .i64 s.got, .int .i64 s.prev, .int .i64 s.skip, .int .i64 s.cap, .int .i64 pb, .int .i64 s.peer, .string kl] 68) := (heap_setCell_other _ _ _ _ (by show VA ≠ VB; omega)).trans ((hb5.block VA (by omega)).trans HVA4.out)
  have hW6 : Below w.heap.size w (w5.setCell ⟨VB, 9, none⟩ (.string kl)) := (below_tr HW4.out hb5).setCell (by show w.heap.size ≤ VB; omega) _
  clear b0 b1 b2 b3 b4 b5 b6 b7 b8 b9 x9 fX hb5 HX5 HV4 HVA4 HB4 HI4 HW4 c4
  generalize (w5.setCell ⟨VB, 9, none⟩ (.string kl)) = w6 at hX6 hA6 hW6 ⊢
  obtain ⟨x0, x1, x2, x3, x4, x5, x6, x7, x8, x9⟩ := cells10 hX6; obtain ⟨y0, y1, y2, y3, y4, y5, y6, y7, y8, y9⟩ := cells10 hA6; have HW6 := hid hW6; clear hX6 hA6 hW6; go_wp2; go_ret; exact ⟨rfl, HW6.out⟩
theorem told_zero (P : Nat) (d : ByteArray) (k : Nat) (s : StM) (pe : Int) (aa : Option Addr) (cc : Nat) (vl : Value) (w : World) (hP : w.heap[P]? = some (.cells #[.string d, .int .i64 s.role, .int .i64 s.step, .int .i64 s.sent, .int .i64 s.got, .int .i64 s.prev, .int .i64 s.skip, .int .i64 s.cap, .int .i64 s.secret, .int .i64 0, .slice aa s.kept.length cc, vl] 143)) (hg : GoodD d.data.toList k) (hs : heldS d.data.toList = s) (hv : IdsAt w (.slice aa s.kept.length cc) s.kept) (hpe1 : pe = 0) (hpe2 : s.peer = 0) :
    Calls Try.prog 49 #[.pointer (some ⟨P, 0, none⟩)] w fun e w' => e = .returned (.bool true) ∧ Below w.heap.size w w' := by
  have hds : d.size = k * 32 := by rw [← len_list]; exact hg.len
  have hk2 := hg.k2
  have hdm : d.size ≤ maxLen := by unfold maxLen; omega
  have hq := (good_lawQ hg).1
  rw [hs] at hq
  have hkc := hg.kept
  rw [hs] at hkc
  have hcap := hq.cap
  have c1 := fun w => look_any d w hdm
  rw [lookV, good_open hg, if_pos rfl, hs] at c1
  unfold viewCells at c1
  have hsec := hq.sec
  have c2 := fun w => pawlPublic_any (s.secret : Int) w
  have e1 : shOut (s.secret : Int) 7 = (pwN 7 s.secret : Int) := by
    rw [shOut, if_pos ⟨hsec, by unfold Pub; omega⟩, pw, Int.toNat_natCast]; rfl
  have e2 : shErr (s.secret : Int) 7 = 0 := by
    rw [shErr, if_pos ⟨hsec, by unfold Pub; omega⟩]
  rw [e1, e2] at c2
  have c4 := fun w hv => bkept_any s pe aa cc w hv (by omega) (fun e he => by
    obtain ⟨a1, a2, a3, a4, _⟩ := hq.keys.lo e he
    have := hq.step
    exact ⟨by omega, by omega⟩)
  have hve := view_eql (s.role : Int) (s.step : Int) (s.sent : Int) (s.got : Int) (s.prev : Int) (s.skip : Int) (s.cap : Int) (pwN 7 s.secret : Int) (s.peer : Int) (str (lettersL s.kept)); subst hpe1
  have hz0 : (s.peer : Int) = 0 := by omega
  rw [hz0] at c1 hve
  clear e1 e2 hsec hkc hcap hq hs hg hpe2 hz0
  generalize str (lettersL s.kept) = kl at *
  generalize (pwN 7 s.secret : Int) = pb at *
  have hPlt := blk_lt hP; have p0 : w.cell? ⟨P, 0, none⟩ = some (.string d) := cell_of_row w _ 0 _ _ _ hP; have HP := hid hP; have HV := hid hv; clear hP hv
  go_enter Try.func49, Try.ntmps49
  go_upto_region 2 with (first | (go_at_call 45; (with_reducible refine (c1 _).mono ?_); rintro e w1 ⟨rfl, hb1⟩))
  have hsz1 := hb1.size
  obtain ⟨ob, eob⟩ : ∃ ob, ob = Obj.cells #[.int .i64 s.role, .int .i64 s.step, .int .i64 s.sent, .int .i64 s.got, .int .i64 s.prev, .int .i64 s.skip, .int .i64 s.cap, .int .i64 pb, .int .i64 0, .string kl] 68 := ⟨_, rfl⟩
  rw [← eob]; have hV1 := heap_alloc_new w1 ob; have hA1 : Below w1.heap.size w1 (w1.alloc ob) := (Below.refl _ _).alloc (Nat.le_refl _) _
  have hl1 : w1.heap.size < (w1.alloc ob).heap.size := by simp
  generalize (w1.alloc ob) = w2 at hV1 hA1 hl1 ⊢
  subst eob; have HB2 := hid (below_tr hb1 hA1); have HP2 := hid ((HB2.out.block P hPlt).trans HP.out); have HV2 := hid hV1
  obtain ⟨VA, hVA⟩ : ∃ VA, VA = w1.heap.size := ⟨_, rfl⟩
  rw [← hVA] at HV2 hl1 ⊢
  have hVAw : w.heap.size ≤ VA := by omega
  have hP2 : P < w2.heap.size := by omega
  have HI2 := hid (HV.out.next HB2.out); clear p0 hb1 hA1 hV1 hVA HP HV c1; have p0 : w2.cell? ⟨P, 0, none⟩ = some (.string d) := cell_of_row w2 _ 0 _ _ _ HP2.out; have p1 : w2.cell? ⟨P, 1, none⟩ = some (.int .i64 s.role) := cell_of_row w2 _ 1 _ _ _ HP2.out; have p2 : w2.cell? ⟨P, 2, none⟩ = some (.int .i64 s.step) := cell_of_row w2 _ 2 _ _ _ HP2.out; have p3 : w2.cell? ⟨P, 3, none⟩ = some (.int .i64 s.sent) := cell_of_row w2 _ 3 _ _ _ HP2.out; have p4 : w2.cell? ⟨P, 4, none⟩ = some (.int .i64 s.got) := cell_of_row w2 _ 4 _ _ _ HP2.out; have p5 : w2.cell? ⟨P, 5, none⟩ = some (.int .i64 s.prev) := cell_of_row w2 _ 5 _ _ _ HP2.out; have p6 : w2.cell? ⟨P, 6, none⟩ = some (.int .i64 s.skip) := cell_of_row w2 _ 6 _ _ _ HP2.out; have p7 : w2.cell? ⟨P, 7, none⟩ = some (.int .i64 s.cap) := cell_of_row w2 _ 7 _ _ _ HP2.out; have p8 : w2.cell? ⟨P, 8, none⟩ = some (.int .i64 s.secret) := cell_of_row w2 _ 8 _ _ _ HP2.out; have p9 : w2.cell? ⟨P, 9, none⟩ = some (.int .i64 0) := cell_of_row w2 _ 9 _ _ _ HP2.out; have p10 : w2.cell? ⟨P, 10, none⟩ = some (.slice aa s.kept.length cc) := cell_of_row w2 _ 10 _ _ _ HP2.out; have p11 : w2.cell? ⟨P, 11, none⟩ = some (vl) := cell_of_row w2 _ 11 _ _ _ HP2.out
  go_upto_region 7 with (first | (go_at_call 17; go_must (with_reducible refine (c2 _).mono ?_); rintro e w' ⟨rfl, hw⟩; rw [hw]; clear hw w'))
  have hB3 := heap_alloc_new w2 (.cells #[.int .i64 s.role, .int .i64 s.step, .int .i64 s.sent, .int .i64 s.got, .int .i64 s.prev, .int .i64 s.skip, .int .i64 s.cap, .int .i64 s.secret, .int .i64 0, .slice aa s.kept.length cc] 140); have hA3 : Below w2.heap.size w2 (w2.alloc (.cells #[.int .i64 s.role, .int .i64 s.step, .int .i64 s.sent, .int .i64 s.got, .int .i64 s.prev, .int .i64 s.skip, .int .i64 s.cap, .int .i64 s.secret, .int .i64 0, .slice aa s.kept.length cc] 140)) := (Below.refl _ _).alloc (Nat.le_refl _) _
  have hl3 : w2.heap.size < (w2.alloc (.cells #[.int .i64 s.role, .int .i64 s.step, .int .i64 s.sent, .int .i64 s.got, .int .i64 s.prev, .int .i64 s.skip, .int .i64 s.cap, .int .i64 s.secret, .int .i64 0, .slice aa s.kept.length cc] 140)).heap.size := by simp
  clear p0 p1 p2 p3 p4 p5 p6 p7 p8 p9 p10 p11
  generalize (w2.alloc (.cells #[.int .i64 s.role, .int .i64 s.step, .int .i64 s.sent, .int .i64 s.got, .int .i64 s.prev, .int .i64 s.skip, .int .i64 s.cap, .int .i64 s.secret, .int .i64 0, .slice aa s.kept.length cc] 140)) = w3 at hB3 hA3 hl3 ⊢
  obtain ⟨BB, hBB⟩ : ∃ BB, BB = w2.heap.size := ⟨_, rfl⟩
  rw [← hBB] at hB3 hl3 ⊢
  have HB3 := hid hB3; have HV3 := hid ((hA3.block VA hl1).trans HV2.out); have HI3 := hid (HI2.out.next hA3); have HW3 := hid (below_tr HB2.out hA3)
  have hVB : VA < BB := by omega
  clear hBB; obtain ⟨b0, b1, b2, b3, b4, b5, b6, b7, b8, b9⟩ := cells10 hB3; clear hB3 hA3 HV2 HI2 HB2 HP2
  go_upto_region 8 with fail
  have hV4 := heap_alloc_new w3 (.cells #[.int .i64 s.role, .int .i64 s.step, .int .i64 s.sent, .int .i64 s.got, .int .i64 s.prev, .int .i64 s.skip, .int .i64 s.cap, .int .i64 pb, .int .i64 0, .string ⟨#[]⟩] 68); have hA4 : Below w3.heap.size w3 (w3.alloc (.cells #[.int .i64 s.role, .int .i64 s.step, .int .i64 s.sent, .int .i64 s.got, .int .i64 s.prev, .int .i64 s.skip, .int .i64 s.cap, .int .i64 pb, .int .i64 0, .string ⟨#[]⟩] 68)) := (Below.refl _ _).alloc (Nat.le_refl _) _
  have hl4 : w3.heap.size < (w3.alloc (.cells #[.int .i64 s.role, .int .i64 s.step, .int .i64 s.sent, .int .i64 s.got, .int .i64 s.prev, .int .i64 s.skip, .int .i64 s.cap, .int .i64 pb, .int .i64 0, .string ⟨#[]⟩] 68)).heap.size := by simp
  clear b0 b1 b2 b3 b4 b5 b6 b7 b8 b9
  generalize (w3.alloc (.cells #[.int .i64 s.role, .int .i64 s.step, .int .i64 s.sent, .int .i64 s.got, .int .i64 s.prev, .int .i64 s.skip, .int .i64 s.cap, .int .i64 pb, .int .i64 0, .string ⟨#[]⟩] 68)) = w4 at hV4 hA4 hl4 ⊢
  obtain ⟨VB, hVBe⟩ : ∃ VB, VB = w3.heap.size := ⟨_, rfl⟩
  rw [← hVBe] at hV4 hl4 ⊢
  have HV4 := hid hV4
  have HVA4 := hid ((hA4.block VA (by omega)).trans HV3.out)
  have HB4 := hid ((hA4.block BB hl3).trans HB3.out); have HI4 := hid (HI3.out.next hA4); have HW4 := hid (below_tr HW3.out hA4)
  have hVV : VA < VB ∧ BB < VB := by omega
  obtain ⟨b0, b1, b2, b3, b4, b5, b6, b7, b8, b9⟩ := cells10 HB4.out; clear hV4 hA4 HV3 HI3 HB3 HW3 hVBe
  go_upto_region 9 with (first | (go_at_call 105; (with_reducible refine (c4 _ HI4.out).mono ?_); rintro e w5 ⟨rfl, hb5⟩; have hX5 := (hb5.block VB hl4).trans HV4.out; have x9 : w5.cell? ⟨VB, 9, none⟩ = some (.string ⟨#[]⟩) := cell_of_row w5 _ 9 _ _ _ hX5; have fX : ∀ j, w5.frozen? ⟨VB, j, none⟩ = false := fun j => frozen_of_row w5 _ j _ _ hX5; have HX5 := hid hX5; clear hX5))
  have hX6 : (w5.setCell ⟨VB, 9, none⟩ (.string kl)).heap[VB]? = some (.cells #[.int .i64 s.role, .int .i64 s.step, .int .i64 s.sent, .int .i64 s.got, .int .i64 s.prev, .int .i64 s.skip, .int .i64 s.cap, .int .i64 pb, .int .i64 0, .string kl] 68) := heap_setCell_same _ _ _ _ _ _ HX5.out
  have hA6 : (w5.setCell ⟨VB, 9, none⟩ (.string kl)).heap[VA]? = some (.cells #[.int .i64 s.role, .int .i64 s.step, .int .i64 s.sent, .int .i64 s.got, .int .i64 s.prev, .int .i64 s.skip, .int .i64 s.cap, .int .i64 pb, .int .i64 0, .string kl] 68) := (heap_setCell_other _ _ _ _ (by show VA ≠ VB; omega)).trans ((hb5.block VA (by omega)).trans HVA4.out)
  have hW6 : Below w.heap.size w (w5.setCell ⟨VB, 9, none⟩ (.string kl)) := (below_tr HW4.out hb5).setCell (by show w.heap.size ≤ VB; omega) _
  clear b0 b1 b2 b3 b4 b5 b6 b7 b8 b9 x9 fX hb5 HX5 HV4 HVA4 HB4 HI4 HW4 c4
  generalize (w5.setCell ⟨VB, 9, none⟩ (.string kl)) = w6 at hX6 hA6 hW6 ⊢
  obtain ⟨x0, x1, x2, x3, x4, x5, x6, x7, x8, x9⟩ := cells10 hX6; obtain ⟨y0, y1, y2, y3, y4, y5, y6, y7, y8, y9⟩ := cells10 hA6; have HW6 := hid hW6; clear hX6 hA6 hW6; go_wp2; go_ret; exact ⟨rfl, HW6.out⟩
end Go.Proofs.Ytabpkohcimiceaa
namespace Go.Proofs.Ytabpkohcimiceaa
set_option maxRecDepth 100000
set_option maxHeartbeats 1000000
open Go.RowKit
set_option linter.unusedVariables false
set_option linter.unusedSimpArgs false
theorem told_two {r : List UInt8} {w : World} {P Q base : Nat} (h : TwoX r w P Q base) : Calls Try.prog 49 #[.pointer (some ⟨P, 0, none⟩)] w fun e w' => e = .returned (.bool true) ∧ Below w.heap.size w w' := by
  obtain ⟨a, s, t, pes, pet, vks, vkt, vls, vlt, Ls, Lt, ds, dt, ks, kt, h⟩ := h; obtain ⟨aa, cc, hvk⟩ := h.p.ids.form; subst hvk
  have hs : heldS (str ds).data.toList = s := by rw [str_toList]; exact h.p.held
  have hg : GoodD (str ds).data.toList ks := by rw [str_toList]; exact h.p.good
  have hps := h.ps
  rw [PeerQ] at hps
  by_cases h0 : s.step = 0
  · rw [if_pos h0] at hps
    have hb := h.p.blk
    rw [hps] at hb
    exact told_zero P (str ds) ks s 0 aa cc vls w hb hg hs h.p.ids rfl (h.keep.pair.ls.z0 h0).2.1
  · rw [if_neg h0] at hps
    have hsec := h.keep.pair.sec (s.step - 1)
    have hp := h.keep.pair.bs.peer (by omega)
    refine told_far P (str ds) ks s pes aa cc vls w h.p.blk hg hs h.p.ids (by rw [hps]; unfold Sec at hsec; omega) ?_
    rw [hps, shOut, if_pos ⟨hsec, by unfold Pub; omega⟩, pw, Int.toNat_natCast, hp]; rfl
theorem kept_walk (u0 u1 u2 u3 u4 u5 u6 : Int) (u7 : ByteArray) (v : Value) (l : List StepM) (h0 : (-9223372036854775808 ≤ u0 ∧ u0 ≤ 9223372036854775807)) (h1 : (-9223372036854775808 ≤ u1 ∧ u1 ≤ 9223372036854775807)) (h2 : (-9223372036854775808 ≤ u2 ∧ u2 ≤ 9223372036854775807)) (h3 : (-9223372036854775808 ≤ u3 ∧ u3 ≤ 9223372036854775807)) (h4 : (-9223372036854775808 ≤ u4 ∧ u4 ≤ 9223372036854775807)) (h5 : (-9223372036854775808 ≤ u5 ∧ u5 ≤ 9223372036854775807)) (h6 : (-9223372036854775808 ≤ u6 ∧ u6 ≤ 9223372036854775807)) (h7 : u7.size ≤ maxLen) (w : World) (hv : StepsAt w v l) (hll : l.length ≤ 1000000000000000) (hok : ∀ o ∈ l, StepOk o) :
    Calls Try.prog 13 #[.agg #[.int .i64 u0, .int .i64 u1, .int .i64 u2, .int .i64 u3, .int .i64 u4, .int .i64 u5, .int .i64 u6, .string u7], v] w fun e w' => e = .returned (.bool true) ∧ Below w.heap.size w w' := by
  obtain ⟨av, ac, hvf⟩ := hv.form; subst hvf
  have c1 := fun w => begun_two u0 u1 u2 u3 u4 u5 u6 u7 w h0 h1 h2 h3 h4 h5 h6 h7
  have HVB : Hid (l ≠ [] → ∀ q, (Value.slice av l.length ac).ownBlock = some q → q < w.heap.size) := fun hne q hq => hv.lt hne hq
  have HOK := hid hok
  generalize sizedL u7.data.toList 8 = r at *
  clear hok
  go_enter Try.func13, Try.ntmps13
  go_upto_region 1 with fail
  obtain ⟨ob, eob⟩ : ∃ ob, ob = Obj.cells #[.int .i64 u0, .int .i64 u1, .int .i64 u2, .int .i64 u3, .int .i64 u4, .int .i64 u5, .int .i64 u6, .string u7] 58 := ⟨_, rfl⟩
  rw [← eob]; have hS := heap_alloc_new w ob; have hW : Below w.heap.size w (w.alloc ob) := (Below.refl _ _).alloc (Nat.le_refl _) _
  generalize (w.alloc ob) = wa at hS hW ⊢
  subst eob; have HW := hid hW; have HV := hid (hv.next hW); have k0 : wa.cell? ⟨w.heap.size, 0, none⟩ = some (.int .i64 u0) := cell_of_row wa _ 0 _ _ _ hS; have k1 : wa.cell? ⟨w.heap.size, 1, none⟩ = some (.int .i64 u1) := cell_of_row wa _ 1 _ _ _ hS; have k2 : wa.cell? ⟨w.heap.size, 2, none⟩ = some (.int .i64 u2) := cell_of_row wa _ 2 _ _ _ hS; have k3 : wa.cell? ⟨w.heap.size, 3, none⟩ = some (.int .i64 u3) := cell_of_row wa _ 3 _ _ _ hS; have k4 : wa.cell? ⟨w.heap.size, 4, none⟩ = some (.int .i64 u4) := cell_of_row wa _ 4 _ _ _ hS; have k5 : wa.cell? ⟨w.heap.size, 5, none⟩ = some (.int .i64 u5) := cell_of_row wa _ 5 _ _ _ hS; have k6 : wa.cell? ⟨w.heap.size, 6, none⟩ = some (.int .i64 u6) := cell_of_row wa _ 6 _ _ _ hS; have k7 : wa.cell? ⟨w.heap.size, 7, none⟩ = some (.string u7) := cell_of_row wa _ 7 _ _ _ hS; clear hS hW hv
  go_upto_region 2 with (first | (go_at_call 48; (with_reducible refine (c1 _).mono ?_); rintro e w1 ⟨⟨P, Q, rfl, hPw, hPQ, hQw, hT⟩, hb1⟩))
  have HW1 := hid (below_tr HW.out hb1); have HV1 := hid (HV.out.next hb1); have hwP : w.heap.size ≤ P := Nat.le_trans HW.out.size hPw; have HT := hid hT; clear k0 k1 k2 k3 k4 k5 k6 k7 hb1 c1 HW HV hT hPw; go_wp2
  go_loopg [8, 9, 10, 11] (l.length + 2) (fun fu c x9 x10 x11 wx => ∃ j : Nat, c = .int .i64 j ∧ j ≤ l.length + 1 ∧ fu + j = l.length + 2 ∧ TwoX r wx P Q (Q + 1) ∧ StepsAt wx (.slice av l.length ac) l ∧ Below w.heap.size w wx)
  case atStart => exact ⟨0, rfl, by omega, by omega, HT.out, HV1.out, HW1.out⟩
  case round =>
    clear HT HV1 HW1; obtain ⟨j, rfl, hj, hfu, hT, hV, hbx⟩ := hrel; have hsx := hbx.size; have HT := hid hT; have HV := hid hV; have HB := hid hbx; clear hT hbx
    by_cases hle : j ≤ l.length
    · have hleI : (j : Int) ≤ (l.length : Int) := by omega
      have hleD : decide ((j : Int) ≤ (l.length : Int)) = true := by rw [decide_eq_true_eq]; omega
      go_upto_region 11 with (first | (go_at_call 49; (with_reducible refine (told_two HT.out).mono ?_); rintro e w2 ⟨rfl, hb2⟩) | (go_at_call 49; (with_reducible refine (told_two (HT.out.next hb2).symm).mono ?_); rintro e w3 ⟨rfl, hb3⟩))
      have hb23 := below_tr hb2 hb3; have HT3 := hid (HT.out.next hb23); have hV3 := HV.out.next hb23; have HV3 := hid hV3; have HB3 : Hid (Below w.heap.size w w3) := HB.out.trans (hb23.mono hsx); have hsx3 := HB3.out.size; clear hb2 hb3 hb23 HT HV HB hV
      by_cases hlt : j < l.length
      · obtain ⟨ob, off, ocap, hov, hobl, hoc⟩ : ∃ ob off ocap, Value.slice av l.length ac = .slice (some ⟨ob, off, none⟩) l.length ocap ∧ ob < w3.heap.size ∧ ∀ q, q < 10 → w3.cell? ⟨ob, off + j * 10 + q, none⟩ = (stepC (l.getD j stepZ))[q]? := by
          rcases hV3 with ⟨q, _⟩ | ⟨ob, off, ocap, q1, q2, q3⟩
          · rw [q] at hlt; simp at hlt
          · exact ⟨ob, off, ocap, q1, q2, q3 j hlt⟩
        injection hov with o1 o2 o3
        subst o1 o3
        have hne : l ≠ [] := fun e => by rw [e] at hlt; simp at hlt
        have hoo := HOK.out (l.getD j stepZ) (by rw [List.getD_eq_getElem?_getD, List.getElem?_eq_getElem hlt]; exact List.getElem_mem hlt)
        generalize l.getD j stepZ = oo at *
        obtain ⟨kd, who, pn, dr, tx, cut, f0, f1, k1, k2⟩ := oo; have hobG : ob < w.heap.size := HVB.out hne ob rfl
        have z0 : w3.cell? ⟨ob, off + j * 10 + 0, none⟩ = some (.int .i64 kd) := hoc 0 (by omega)
        have z1 : w3.cell? ⟨ob, off + j * 10 + 1, none⟩ = some (.int .i64 who) := hoc 1 (by omega)
        have z2 : w3.cell? ⟨ob, off + j * 10 + 2, none⟩ = some (.int .i64 pn) := hoc 2 (by omega)
        have z3 : w3.cell? ⟨ob, off + j * 10 + 3, none⟩ = some (.int .i64 dr) := hoc 3 (by omega)
        have z4 : w3.cell? ⟨ob, off + j * 10 + 4, none⟩ = some (.string tx) := hoc 4 (by omega)
        have z5 : w3.cell? ⟨ob, off + j * 10 + 5, none⟩ = some (.bool cut) := hoc 5 (by omega)
        have z6 : w3.cell? ⟨ob, off + j * 10 + 6, none⟩ = some (.int .i64 f0) := hoc 6 (by omega)
        have z7 : w3.cell? ⟨ob, off + j * 10 + 7, none⟩ = some (.int .i64 f1) := hoc 7 (by omega)
        have z8 : w3.cell? ⟨ob, off + j * 10 + 8, none⟩ = some (.string k1) := hoc 8 (by omega)
        have z9 : w3.cell? ⟨ob, off + j * 10 + 9, none⟩ = some (.string k2) := hoc 9 (by omega)
        have z00 : w3.cell? ⟨ob, off + j * 10, none⟩ = some (.int .i64 kd) := hoc 0 (by omega)
        have cs := keepStep_any r P Q (Q + 1) kd who pn dr f0 f1 tx k1 k2 cut w3 HT3.out hoo.pn hoo.dr hoo.f0 hoo.f1 hoo.tx hoo.k1 hoo.k2
        have hjl : (j : Int) < (l.length : Int) := by omega
        have hj0 : (0 : Int) ≤ (j : Int) := by omega
        clear hoc hV3 hoo
        go_wp2_with (first | (go_at_call 50; (with_reducible refine cs.mono ?_); rintro e w4 ⟨rfl, ht4, hn4⟩; have HT4 := hid ht4; have HN4 := hid hn4; clear ht4 hn4))
        go_roundg (gk - 1)
        case measure => omega
        case rel =>
          have hS : ∀ k, MaySet P Q (Q + 1) k → w.heap.size ≤ k := by
            rintro k (q | q | q) <;> omega
          refine ⟨j + 1, by simp, by omega, by omega, HT4.out, HV3.out.only HN4.out (fun hne q hq h => ?_), HB3.out.trans (HN4.out.below hsx3 hS)⟩
          have := HVB.out hne q hq
          have := hS q h
          omega
      · have hjl : ¬ (j : Int) < (l.length : Int) := by omega
        clear hV3; go_wp2
        go_roundg (gk - 1)
        case measure => omega
        case rel => exact ⟨j + 1, by simp, by omega, by omega, HT3.out, HV3.out, HB3.out⟩
    · have hleI : ¬ (j : Int) ≤ (l.length : Int) := by omega
      have hleD : decide ((j : Int) ≤ (l.length : Int)) = false := by rw [decide_eq_false_iff_not]; omega
      clear hV; go_wp2; go_ret; exact ⟨rfl, HB.out⟩
end Go.Proofs.Ytabpkohcimiceaa
