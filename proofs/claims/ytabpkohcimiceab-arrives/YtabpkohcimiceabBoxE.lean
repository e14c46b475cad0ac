import Derived.Test.YtabpkohcimiceabTextA
import Derived.BigRegion
namespace Go.Proofs.Ytabpkohcimiceab
set_option maxRecDepth 100000
set_option maxHeartbeats 1000000
open Go.RowKit
set_option linter.unusedVariables false
attribute [local go_sem ↓] Go.wp_at_zero Go.wp_at_succ
attribute [local go_sem] str_two_size str_one_size str_fourN_size
theorem StAt.madeD (w : World) (s : StM) (v : Value) : StAt (w.alloc (.cells (stCells s v) 84)) w.heap.size s v := by
  constructor
  · simp
  all_goals (rw [World.cell?_alloc_new]; rfl)
set_option maxHeartbeats 4000000 in
theorem boxSide_any (s : StM) (v : Value) (w : World) (hs : StOk s) (hv : EntsAt w v s.kept) :
    Calls Try.prog 85 #[.agg (stCells s v)] w fun e w' => e = .returned (.string (str (sideL s))) ∧ Below w.heap.size w w' := by
  obtain ⟨a, cap, hva⟩ := hv.form; subst hva
  go_enter Try.func85, Try.ntmps85
  go_upto_region 1 with fail
  have hst := StAt.madeD w s (.slice a s.kept.length cap); have hbl : Below w.heap.size w (w.alloc (.cells (stCells s (.slice a s.kept.length cap)) 84)) := (Below.refl _ _).alloc (Nat.le_refl _) _
  generalize w.alloc (.cells (stCells s (.slice a s.kept.length cap)) 84) = wb at hst hbl ⊢
  obtain ⟨B, hB⟩ : ∃ B, B = w.heap.size := ⟨_, rfl⟩
  rw [← hB] at hst ⊢
  have HB : Hid (B = w.heap.size) := hB; have HW := hid hbl; have HS : Hid (StAt wb B s (.slice a s.kept.length cap)) := hst; have HV : Hid (EntsAt wb (.slice a s.kept.length cap) s.kept) := hv.next hbl; clear hB hbl hv; obtain ⟨o0, o1, o2, o3, o4, o5, o6, o7, o8, o9, o10, o11, o12, o13⟩ := hs; have tok1 : True := trivial
  go_cut [3] (fun t wx => t = .string (str (headL s)) ∧ Below wb.heap.size wb wx)
  case first =>
    obtain ⟨lt, h0, h1, h2, h3, h4, h5, h6, h7, h8, h9, h10, h11, h12⟩ := hst; clear h7 h8 h9 h10 h11 o7 o8 o9 o10 o11 o13; have kc := conv8
    go_wp2_with fail
    go_meet
    case rel =>
      refine ⟨?_, ?_⟩
      · rfl
      · exact (Below.refl _ _).alloc (Nat.le_refl _) _
  case rest =>
    obtain ⟨rfl, hb1⟩ := hcut; have HS1 : Hid (StAt wc B s (.slice a s.kept.length cap)) := HS.out.next hb1; have HV1 : Hid (EntsAt wc (.slice a s.kept.length cap) s.kept) := HV.out.next hb1; have HW1 : Hid (Below w.heap.size w wc) := HW.out.trans (hb1.mono HW.out.size); clear hb1 HS HV HW hst; have z0 : (str (headL s)).size = 8 := rfl
    have z1 : (str s.root).size = 8 := by rw [str_size]; exact o7
    have z2 : (str s.out).size = 8 := by rw [str_size]; exact o8
    have z3 : (str s.inn).size = 8 := by rw [str_size]; exact o9
    have z4 : (str (fourN s.secret)).size = 4 := rfl; have z5 : (str (fourN s.peer)).size = 4 := rfl
    go_upto_region 2 with fail
    go_cut [3] (fun t wx => (∃ m : ByteArray, t = .string m ∧ m.size = 32 ∧ m = str (headL s ++ s.root ++ s.out ++ s.inn)) ∧ wx = wc)
    case first =>
      obtain ⟨lt, h0, h1, h2, h3, h4, h5, h6, h7, h8, h9, h10, h11, h12⟩ := HS1.out; clear h0 h1 h2 h3 h4 h5 h6 h12 h10 h11
      go_wp2_with fail
      go_meet
      case rel =>
        refine ⟨⟨_, rfl, ?_, ?_⟩, rfl⟩
        · simp only [ByteArray.size_append, z0, z1, z2, z3]
        · simp only [str_append, List.append_assoc]
    case rest =>
      obtain ⟨⟨m0, rfl, hm0, hm0e⟩, rfl⟩ := hcut; have HM0 : Hid (m0 = str (headL s ++ s.root ++ s.out ++ s.inn)) := hm0e; clear hm0e
      go_upto_region 3 with fail
      go_cut [3] (fun t wx => t = .string (str (bodyL s)) ∧ Below wc.heap.size wc wx)
      case first =>
        obtain ⟨lt, h0, h1, h2, h3, h4, h5, h6, h7, h8, h9, h10, h11, h12⟩ := HS1.out; clear h0 h1 h2 h3 h4 h5 h6 h7 h8 h9 h12; have hw1 := wrap_u32 s.secret o10; have hw2 := wrap_u32 s.peer o11
        go_region_held3 (fun w' => w'.cell? ⟨B, 10, none⟩ = some (.int .i64 s.secret) ∧ w'.cell? ⟨B, 11, none⟩ = some (.int .i64 s.peer))
          (simp (maxDischargeDepth := 40) [World.cell?_alloc_some, h10, h11])
          (first | (go_at_call 80; go_must (refine (text_int _ _ (by omega) (by omega)).mono ?_); rintro e w1 ⟨rfl, x1, rfl⟩))
        go_wp2_with fail
        go_meet
        case rel =>
          refine ⟨?_, ?_⟩
          · rw [HM0.out]
            simp only [str_append, bodyL, List.append_assoc]
          · repeat (first | exact Below.refl _ _ | apply Below.drew | (refine Below.alloc ?_ (by first | exact Nat.le_refl _ | (simp; done) | (simp; omega)) _))
      case rest =>
        obtain ⟨rfl, hb1⟩ := hcut; have HS2 : Hid (StAt wc B s (.slice a s.kept.length cap)) := HS1.out.next hb1; have HV2 : Hid (EntsAt wc (.slice a s.kept.length cap) s.kept) := HV1.out.next hb1; have HW2 : Hid (Below w.heap.size w wc) := HW1.out.trans (hb1.mono HW1.out.size); clear hb1 HS1 HV1 HW1 tok1 HM0 hm0
        have hbz : (bodyL s).length = 40 := by
          simp only [bodyL, List.length_append, o7, o8, o9, fourN_length]; rfl
        go_wp2
        go_loopg [3, 4] (s.kept.length + 1) (fun g t c wr => ∃ i : Nat, ∃ m : ByteArray, c = .int .i64 i ∧ t = .string m ∧ i ≤ s.kept.length ∧ g + i = s.kept.length + 1 ∧ m.size = 40 + 10 * i ∧ m = str (bodyL s ++ entsL (s.kept.take i)) ∧ Below wc.heap.size wc wr)
        case atStart => exact ⟨0, _, rfl, rfl, by omega, by omega, by rw [str_size]; exact hbz, by simp [entsL], Below.refl _ _⟩
        case round =>
          obtain ⟨i, m, rfl, rfl, hi, hg, hms, hm, hbr⟩ := hrel; have HM : Hid (m = str (bodyL s ++ entsL (s.kept.take i))) := hm; have HR := hid hbr; have hst2 := HS2.out.next hbr; have hv2 := HV2.out.next hbr; clear hm hbr
          by_cases hlt : i < s.kept.length
          · obtain ⟨g, cap', hv', hc, hgs, e0, e1, e2⟩ := hv2.cells hlt
            injection hv' with q1 q2 q3
            subst q1 q3
            obtain ⟨k1, k2, k3⟩ := o13 (s.kept.getD i default) (by rw [List.getD_eq_getElem?_getD, List.getElem?_eq_getElem hlt]; exact List.getElem_mem _)
            have het := entsL_take s.kept i hlt
            generalize s.kept.getD i default = en at e0 e1 e2 k1 k2 k3 het
            have HT : Hid (entsL (s.kept.take (i + 1)) = entsL (s.kept.take i) ++ entL en) := het; have h12 := hst2.c12
            have hil : (i : Int) < (s.kept.length : Int) := by omega
            have zk : (str en.key).size = 8 := by rw [str_size]; exact k3
            have kc := conv2d; have hBlt := hst2.lt; have hw1 := wrap_u8 en.step k1; have hw2 := wrap_u8 en.count k2; clear het hst2 hv2
            go_upto_region 7 with fail
            have r3 : ¬ 9223372036854775807 < 40 + 10 * i + 10 := by omega
            have i0 : (0 : Int) ≤ (i : Int) := by omega
            go_region
            go_wp2
            go_roundg (gk - 1)
            case measure => omega
            case rel =>
              have e : m ++ (str [UInt8.ofNat en.step, UInt8.ofNat en.count] ++ str en.key) = str (bodyL s ++ entsL (s.kept.take (i + 1))) := by
                rw [HM.out, str_append, str_append, HT.out, entL]; simp
              have ez : (m ++ (str [UInt8.ofNat en.step, UInt8.ofNat en.count] ++ str en.key)).size = 40 + 10 * (i + 1) := by
                rw [ByteArray.size_append, ByteArray.size_append, hms, zk, str_two_size]; omega
              refine ⟨i + 1, m ++ (str [UInt8.ofNat en.step, UInt8.ofNat en.count] ++ str en.key), by simp, rfl, by omega, by omega, ez, e, ?_⟩
              have hr := HR.out
              repeat (first | exact hr | apply Below.drew | (refine Below.alloc ?_ (by have := hr.size; first | omega | (simp; omega)) _))
          · obtain rfl : i = s.kept.length := by omega
            have h6 := hst2.c6; have h12 := hst2.c12; clear hst2 hv2
            have hf1 := fun w => sideSize_any s.cap w (by omega)
            have hhf : halfN s.cap ≤ 100 := by unfold halfN; omega
            have hf2 := fun w => noughts_dev ((halfN s.cap : Int) * 32 - (40 + 10 * (s.kept.length : Int))) w (by omega)
            have HF : Hid (m ++ str (List.replicate ((halfN s.cap : Int) * 32 - (40 + 10 * (s.kept.length : Int))).toNat 0) = str (sideL s)) := by
              show _ = _
              rw [HM.out, str_append, List.take_length, sideL, fillL]
              congr 2
              have hml : (bodyL s ++ entsL s.kept).length = 40 + 10 * s.kept.length := by
                have := congrArg ByteArray.size HM.out
                rw [str_size, List.take_length] at this
                rw [← this, hms]
              rw [hml]
              congr 1
              omega
            have hzz : (str (List.replicate ((halfN s.cap : Int) * 32 - (40 + 10 * (s.kept.length : Int))).toNat 0)).size ≤ 10000 := by rw [str_size, List.length_replicate]; omega
            have HR2 : Hid (Below w.heap.size w wr) := HW2.out.trans (HR.out.mono HW2.out.size)
            generalize str (List.replicate ((halfN s.cap : Int) * 32 - (40 + 10 * (s.kept.length : Int))).toNat 0) = zz at *
            generalize halfN s.cap = hh at hf1 hhf hf2
            go_wp2_with (first | (go_at_call 86; refine (hf1 _).mono ?_; rintro e w' ⟨rfl, hw⟩; rw [hw]; clear hw w') | (go_at_call 77; refine (hf2 _).mono ?_; rintro e w1 ⟨rfl, hw⟩))
            go_ret
            refine ⟨?_, ?_⟩
            · rw [← HF.out]; rfl
            · rcases hw with rfl | ⟨cc, rfl⟩
              · exact HR2.out
              · exact HR2.out.alloc HR2.out.size _
end Go.Proofs.Ytabpkohcimiceab
