import Derived.Test.YtabpkohcimiceabGreatBoxA
import Derived.WalkKit
import Derived.WalkSpells
import Derived.WalkLawsBesides
import Derived.Deep.RegionHeld3
import Derived.Deep.DeepMust
import Derived.Deep.DrawnRows
import Derived.Deep.DeepCutAuto
namespace Go.Proofs.YtabpkohcimiceabGreat
open Go.RowKit
set_option linter.unusedVariables false
attribute [local go_sem ↓] Go.wp_at_zero Go.wp_at_succ

/-- A box that lies in a variable: block g. -/
structure StAt (w : World) (g : Nat) (s : StM) (v : Value) : Prop where
  lt : g < w.heap.size
  c0 : w.cell? ⟨g, 0, none⟩ = some (.int .i64 (s.role : Int))
  c1 : w.cell? ⟨g, 1, none⟩ = some (.int .i64 (s.step : Int))
  c2 : w.cell? ⟨g, 2, none⟩ = some (.int .i64 (s.sent : Int))
  c3 : w.cell? ⟨g, 3, none⟩ = some (.int .i64 (s.got : Int))
  c4 : w.cell? ⟨g, 4, none⟩ = some (.int .i64 (s.prev : Int))
  c5 : w.cell? ⟨g, 5, none⟩ = some (.int .i64 (s.skip : Int))
  c6 : w.cell? ⟨g, 6, none⟩ = some (.int .i64 (s.cap : Int))
  c7 : w.cell? ⟨g, 7, none⟩ = some (.string (str s.root))
  c8 : w.cell? ⟨g, 8, none⟩ = some (.string (str s.out))
  c9 : w.cell? ⟨g, 9, none⟩ = some (.string (str s.inn))
  c10 : w.cell? ⟨g, 10, none⟩ = some (.int .i64 (s.secret : Int))
  c11 : w.cell? ⟨g, 11, none⟩ = some (.int .i64 (s.peer : Int))
  c12 : w.cell? ⟨g, 12, none⟩ = some v
theorem StAt.next {w w' : World} {g : Nat} {s : StM} {v : Value} (h : StAt w g s v) (hb : Below w.heap.size w w') : StAt w' g s v := by
  have f : ∀ i x, w.cell? ⟨g, i, none⟩ = some x → w'.cell? ⟨g, i, none⟩ = some x := fun i x hx => (hb.cell (p := ⟨g, i, none⟩) h.lt).trans hx
  exact ⟨Nat.lt_of_lt_of_le h.lt hb.size, f _ _ h.c0, f _ _ h.c1, f _ _ h.c2, f _ _ h.c3, f _ _ h.c4, f _ _ h.c5, f _ _ h.c6, f _ _ h.c7, f _ _ h.c8, f _ _ h.c9, f _ _ h.c10, f _ _ h.c11, f _ _ h.c12⟩
theorem StAt.made (w : World) (s : StM) (v : Value) : StAt (w.alloc (.cells (stCells s v) 63)) w.heap.size s v := by
  constructor
  · simp
  all_goals (rw [World.cell?_alloc_new]; rfl)
/-- The numbers fit in bytes, the keys have 8 bytes. -/
structure StOk (s : StM) : Prop where
  role : s.role ≤ 255
  step : s.step ≤ 255
  sent : s.sent ≤ 255
  got : s.got ≤ 255
  prev : s.prev ≤ 255
  skip : s.skip ≤ 255
  cap : s.cap ≤ 255
  root : s.root.length = 8
  out : s.out.length = 8
  inn : s.inn.length = 8
  secret : s.secret < 4294967296
  peer : s.peer < 4294967296
  kept : s.kept.length ≤ 255
  keys : ∀ e ∈ s.kept, e.step ≤ 255 ∧ e.count ≤ 255 ∧ e.key.length = 8

theorem four_nat (n : Nat) (w : World) (h : n < 4294967296) :
    Calls Tryz.prog 108 #[.int .i64 n] w fun e w' => e = .returned (.string (str (fourN n))) ∧ ∃ c1 c2 c3 c4, w' = (((w.alloc (.cells c1 5)).alloc (.cells c2 5)).alloc (.cells c3 5)).alloc (.cells c4 5) := by
  have e : u (BitVec.ofNat 32 n) = (n : Int) := by unfold u; rw [BitVec.toNat_ofNat]; omega
  have := four_any (BitVec.ofNat 32 n) w
  rw [e] at this
  exact this
theorem one_nat (n : Int) (w : World) (h0 : 0 ≤ n) (h1 : n ≤ 255) :
    Calls Tryz.prog 76 #[.int .i64 n] w fun e w' => e = .returned (.string (str [UInt8.ofNat n.toNat])) ∧ ∃ c, w' = w.alloc (.cells c 5) := byteOf_any n w h0 (by omega)
attribute [local go_sem] str_one_size

set_option maxRecDepth 100000 in
set_option maxHeartbeats 4000000 in
theorem side_any (s : StM) (v : Value) (w : World) (hs : StOk s) (hv : EntsAt w v s.kept) :
    Calls Tryz.prog 125 #[.agg (stCells s v)] w fun e w' => e = .returned (.string (str (sideL s))) ∧ Below w.heap.size w w' := by
  obtain ⟨a, cap, hva⟩ := hv.form
  subst hva
  go_enter Tryz.func125, Tryz.ntmps125
  go_upto_region 1 with fail
  have hst := StAt.made w s (.slice a s.kept.length cap)
  have hbl : Below w.heap.size w (w.alloc (.cells (stCells s (.slice a s.kept.length cap)) 63)) := (Below.refl _ _).alloc (Nat.le_refl _) _
  generalize w.alloc (.cells (stCells s (.slice a s.kept.length cap)) 63) = wb at hst hbl ⊢
  obtain ⟨B, hB⟩ : ∃ B, B = w.heap.size := ⟨_, rfl⟩
  rw [← hB] at hst ⊢
  have HB : Hid (B = w.heap.size) := hB
  have HW : Hid (Below w.heap.size w wb) := hbl
  have HS : Hid (StAt wb B s (.slice a s.kept.length cap)) := hst
  have HV : Hid (EntsAt wb (.slice a s.kept.length cap) s.kept) := hv.next hbl
  clear hB hbl hv
  obtain ⟨o0, o1, o2, o3, o4, o5, o6, o7, o8, o9, o10, o11, o12, o13⟩ := hs
  have tok1 : True := trivial
  go_cut [3] (fun t wx => t = .string (str (headL s)) ∧ Below wb.heap.size wb wx)
  case first =>
    obtain ⟨lt, h0, h1, h2, h3, h4, h5, h6, h7, h8, h9, h10, h11, h12⟩ := hst
    clear h7 h8 h9 h10 h11 o7 o8 o9 o10 o11 o13
    go_region_held3 (fun w' => w'.cell? ⟨B, 0, none⟩ = some (.int .i64 (s.role : Int)) ∧ w'.cell? ⟨B, 1, none⟩ = some (.int .i64 (s.step : Int)) ∧ w'.cell? ⟨B, 2, none⟩ = some (.int .i64 (s.sent : Int)) ∧ w'.cell? ⟨B, 3, none⟩ = some (.int .i64 (s.got : Int)) ∧ w'.cell? ⟨B, 4, none⟩ = some (.int .i64 (s.prev : Int)) ∧ w'.cell? ⟨B, 5, none⟩ = some (.int .i64 (s.skip : Int)) ∧ w'.cell? ⟨B, 6, none⟩ = some (.int .i64 (s.cap : Int)) ∧ w'.cell? ⟨B, 12, none⟩ = some (.slice a s.kept.length cap))
      (simp (maxDischargeDepth := 40) [World.cell?_alloc_some, h0, h1, h2, h3, h4, h5, h6, h12])
      (first | (go_at_call 76; go_must (refine (one_nat _ _ (by omega) (by omega)).mono ?_); rintro e w1 ⟨rfl, cc, rfl⟩))
    go_wp2_with fail
    go_meet
    case rel =>
      refine ⟨?_, ?_⟩
      · simp only [str_append]; rfl
      · repeat (first | exact Below.refl _ _ | apply Below.drew | (refine Below.alloc ?_ (by first | exact Nat.le_refl _ | (simp; done) | (simp; omega)) _))
  case rest =>
    obtain ⟨rfl, hb1⟩ := hcut
    have HS1 : Hid (StAt wc B s (.slice a s.kept.length cap)) := HS.out.next hb1
    have HV1 : Hid (EntsAt wc (.slice a s.kept.length cap) s.kept) := HV.out.next hb1
    have HW1 : Hid (Below w.heap.size w wc) := HW.out.trans (hb1.mono HW.out.size)
    clear hb1 HS HV HW hst
    go_upto_region 2 with fail
    go_cut [3] (fun t wx => t = .string (str (bodyL s)) ∧ Below wc.heap.size wc wx)
    case first =>
      obtain ⟨lt, h0, h1, h2, h3, h4, h5, h6, h7, h8, h9, h10, h11, h12⟩ := HS1.out
      clear h0 h1 h2 h3 h4 h5 h6 h12
      have z0 : (str (headL s)).size = 8 := rfl
      have z1 : (str s.root).size = 8 := by rw [str_size]; exact o7
      have z2 : (str s.out).size = 8 := by rw [str_size]; exact o8
      have z3 : (str s.inn).size = 8 := by rw [str_size]; exact o9
      have z4 : (str (fourN s.secret)).size = 4 := rfl
      have z5 : (str (fourN s.peer)).size = 4 := rfl
      go_region_held3 (fun w' => w'.cell? ⟨B, 7, none⟩ = some (.string (str s.root)) ∧ w'.cell? ⟨B, 8, none⟩ = some (.string (str s.out)) ∧ w'.cell? ⟨B, 9, none⟩ = some (.string (str s.inn)) ∧ w'.cell? ⟨B, 10, none⟩ = some (.int .i64 (s.secret : Int)) ∧ w'.cell? ⟨B, 11, none⟩ = some (.int .i64 (s.peer : Int)))
        (simp (maxDischargeDepth := 40) [World.cell?_alloc_some, h7, h8, h9, h10, h11])
        (first | (go_at_call 108; have _t := tok1; go_must (refine (four_nat s.secret _ o10).mono ?_); rintro e w1 ⟨rfl, x1, x2, x3, x4, rfl⟩; clear tok1) | (go_at_call 108; go_must (refine (four_nat s.peer _ o11).mono ?_); rintro e w1 ⟨rfl, x1, x2, x3, x4, rfl⟩))
      go_wp2_with fail
      go_meet
      case rel =>
        refine ⟨?_, ?_⟩
        · simp only [str_append]; rfl
        · repeat (first | exact Below.refl _ _ | apply Below.drew | (refine Below.alloc ?_ (by first | exact Nat.le_refl _ | (simp; done) | (simp; omega)) _))
    case rest =>
      obtain ⟨rfl, hb1⟩ := hcut
      have HS2 : Hid (StAt wc B s (.slice a s.kept.length cap)) := HS1.out.next hb1
      have HV2 : Hid (EntsAt wc (.slice a s.kept.length cap) s.kept) := HV1.out.next hb1
      have HW2 : Hid (Below w.heap.size w wc) := HW1.out.trans (hb1.mono HW1.out.size)
      clear hb1 HS1 HV1 HW1 tok1
      have hbz : (bodyL s).length = 40 := by
        simp only [bodyL, List.length_append, o7, o8, o9, fourN_length]; rfl
      go_wp2
      go_loopg [3, 4] (s.kept.length + 1) (fun g t c wr => ∃ i : Nat, ∃ m : ByteArray, c = .int .i64 i ∧ t = .string m ∧ i ≤ s.kept.length ∧ g + i = s.kept.length + 1 ∧ m.size = 40 + 10 * i ∧ m = str (bodyL s ++ entsL (s.kept.take i)) ∧ Below wc.heap.size wc wr)
      case atStart => exact ⟨0, _, rfl, rfl, by omega, by omega, by rw [str_size]; exact hbz, by simp [entsL], Below.refl _ _⟩
      case round =>
        obtain ⟨i, m, rfl, rfl, hi, hg, hms, hm, hbr⟩ := hrel
        have HM : Hid (m = str (bodyL s ++ entsL (s.kept.take i))) := hm
        have HR : Hid (Below wc.heap.size wc wr) := hbr
        have hst2 := HS2.out.next hbr
        have hv2 := HV2.out.next hbr
        clear hm hbr
        by_cases hlt : i < s.kept.length
        · obtain ⟨g, cap', hv', hc, hgs, e0, e1, e2⟩ := hv2.cells hlt
          injection hv' with q1 q2 q3
          subst q1 q3
          obtain ⟨k1, k2, k3⟩ := o13 (s.kept.getD i default) (by rw [List.getD_eq_getElem?_getD, List.getElem?_eq_getElem hlt]; exact List.getElem_mem _)
          have het := entsL_take s.kept i hlt
          generalize s.kept.getD i default = en at e0 e1 e2 k1 k2 k3 het
          have HT : Hid (entsL (s.kept.take (i + 1)) = entsL (s.kept.take i) ++ entL en) := het
          have h12 := hst2.c12
          have hil : (i : Int) < (s.kept.length : Int) := by omega
          have zk : (str en.key).size = 8 := by rw [str_size]; exact k3
          clear het hst2 hv2
          go_upto_region 6 with fail
          have r1 : ¬ 9223372036854775807 < 40 + 10 * i + 1 := by omega
          have r2 : ¬ 9223372036854775807 < 40 + 10 * i + 1 + 1 := by omega
          have r3 : ¬ 9223372036854775807 < 40 + 10 * i + 1 + 1 + 8 := by omega
          have i0 : (0 : Int) ≤ (i : Int) := by omega
          go_region_held3 (fun w' => w'.cell? ⟨B, 12, none⟩ = some (.slice (some ⟨g, 0, none⟩) s.kept.length cap) ∧ w'.cell? ⟨g, i * 3, none⟩ = some (.int .i64 (en.step : Int)) ∧ w'.cell? ⟨g, i * 3 + 1, none⟩ = some (.int .i64 (en.count : Int)) ∧ w'.cell? ⟨g, i * 3 + 2, none⟩ = some (.string (str en.key)))
            (simp (maxDischargeDepth := 40) [World.cell?_alloc_some, h12, e0, e1, e2])
            (first | (go_at_call 76; go_must (refine (one_nat _ _ (by omega) (by omega)).mono ?_); rintro e w1 ⟨rfl, cc, rfl⟩))
          go_wp2
          go_roundg (gk - 1)
          case measure => omega
          case rel =>
            have e : m ++ str [UInt8.ofNat en.step] ++ str [UInt8.ofNat en.count] ++ str en.key = str (bodyL s ++ entsL (s.kept.take (i + 1))) := by
              rw [HM.out, str_append, str_append, str_append, HT.out, entL]; simp
            have ez : (m ++ str [UInt8.ofNat en.step] ++ str [UInt8.ofNat en.count] ++ str en.key).size = 40 + 10 * (i + 1) := by
              rw [ByteArray.size_append, ByteArray.size_append, ByteArray.size_append, hms, zk, str_one_size, str_one_size]; omega
            refine ⟨i + 1, m ++ str [UInt8.ofNat en.step] ++ str [UInt8.ofNat en.count] ++ str en.key, by simp, rfl, by omega, by omega, ez, e, ?_⟩
            have hr := HR.out
            repeat (first | exact hr | apply Below.drew | (refine Below.alloc ?_ (by have := hr.size; first | omega | (simp; omega)) _))
        · obtain rfl : i = s.kept.length := by omega
          have h6 := hst2.c6
          have h12 := hst2.c12
          clear hst2 hv2
          have hf1 := fun w => half_any s.cap w (by omega)
          have hhf : halfN s.cap ≤ 100 := by unfold halfN; omega
          have hf2 := fun w => filled_any m ((halfN s.cap : Int) * 32) w (by omega) (by omega) (by omega)
          have HF : Hid (fillL m.data.toList ((halfN s.cap : Int) * 32).toNat = sideL s) := by
            show _ = _
            rw [HM.out, str_toList, List.take_length, sideL, show ((halfN s.cap : Int) * 32).toNat = halfN s.cap * 32 by omega]
          have HR2 : Hid (Below w.heap.size w wr) := HW2.out.trans (HR.out.mono HW2.out.size)
          generalize halfN s.cap = hh at hf1 hhf hf2 HF
          go_wp2_with (first | (go_at_call 95; refine (hf1 _).mono ?_; rintro e w' ⟨rfl, hw⟩; rw [hw]; clear hw w') | (go_at_call 136; refine (hf2 _).mono ?_; rintro e w' ⟨rfl, hw⟩; rw [hw]; clear hw w'))
          go_ret
          refine ⟨?_, HR2.out⟩
          show Ending.returned (Value.string (str (fillL m.data.toList ((hh : Int) * 32).toNat))) = _
          rw [HF.out]
end Go.Proofs.YtabpkohcimiceabGreat
