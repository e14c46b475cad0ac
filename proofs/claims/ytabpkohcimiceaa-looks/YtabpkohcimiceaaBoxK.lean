import Derived.Test.YtabpkohcimiceaaBoxS
import Derived.WalkKit
import Derived.WalkSpells
import Derived.WalkLawsBesides
import Derived.Deep.RegionHeld3
import Derived.Deep.DeepMust
import Derived.Deep.DrawnRows
import Derived.Deep.DeepCutAuto
namespace Go.Proofs.Ytabpkohcimiceaa
open Go.RowKit
set_option linter.unusedVariables false
attribute [local go_sem ↓] Go.wp_at_zero Go.wp_at_succ

theorem entsL_length : ∀ (l : List EntM), (∀ e ∈ l, e.step ≤ 255 ∧ e.count ≤ 255 ∧ e.key.length = 8) → (entsL l).length = 10 * l.length
  | [], _ => rfl
  | e :: l, h => by
    have h1 := entsL_length l (fun x hx => h x (List.mem_cons_of_mem _ hx))
    have h2 := (h e List.mem_cons_self).2.2
    rw [entsL, List.length_append, h1, entL]; simp [h2]; omega
theorem bodyL_length {s : StM} (h : StOk s) : (bodyL s).length = 40 := by
  simp only [bodyL, List.length_append, h.root, h.out, h.inn, fourN_length]; rfl
theorem sideL_le {s : StM} (h : StOk s) : (sideL s).length ≤ 5000 := by
  have h1 := bodyL_length h
  have h2 := entsL_length s.kept h.keys
  have h3 := h.kept
  have h4 := h.cap
  rw [sideL, fillL_length, List.length_append, h1, h2, halfN]; omega

set_option maxRecDepth 100000 in
set_option maxHeartbeats 1000000 in
theorem pack_any (s : StM) (v : Value) (live n : Nat) (w : World) (hs : StOk s) (hv : EntsAt w v s.kept) (hl : live ≤ 255) (hn : n ≤ 2000) :
    Calls Try.prog 83 #[.agg (stCells s v), .int .i64 live, .int .i64 n] w fun e w' => e = .returned (.string (str (packL s live n))) ∧ Below w.heap.size w w' := by
  have hcap := hs.cap
  have c1 := fun w => top_any s.cap live w (by omega) (by omega)
  have c2 := fun w => half_any s.cap w (by omega)
  have hhf : halfN s.cap ≤ 100 := by unfold halfN; omega
  have hsl := sideL_le hs
  have hst := StAt.made w s v
  have hbl : Below w.heap.size w (w.alloc (.cells (stCells s v) 111)) := (Below.refl _ _).alloc (Nat.le_refl _) _
  have hv1 := hv.next hbl
  have HP : Hid (packL s live n = fillL ((if live = 1 then fillL (topL s.cap live) ((1 + halfN s.cap) * 32) else topL s.cap live) ++ sideL s) n) := rfl
  have ht := topL_length s.cap live
  go_enter Try.func83, Try.ntmps83
  go_upto_region 1 with fail
  generalize w.alloc (.cells (stCells s v) 111) = wb at hst hbl hv1 ⊢
  obtain ⟨B, hB⟩ : ∃ B, B = w.heap.size := ⟨_, rfl⟩
  rw [← hB] at hst ⊢
  have HW : Hid (Below w.heap.size w wb) := hbl
  have HS : Hid (StAt wb B s v) := hst
  have HV : Hid (EntsAt wb v s.kept) := hv1
  have h6 := hst.c6
  clear hB hbl hv hv1 hst
  generalize halfN s.cap = hh at c2 hhf HP
  go_upto_region 2 with (go_at_call 125; refine (c1 _).mono ?_; rintro e w1 ⟨rfl, hb1⟩)
  have hst1 := HS.out.next hb1
  have HV1 : Hid (EntsAt w1 v s.kept) := HV.out.next hb1
  have HW1 : Hid (Below w.heap.size w w1) := HW.out.trans (hb1.mono HW.out.size)
  have c4 := fun w h => side_any s v w hs h
  obtain ⟨tp, htp⟩ : ∃ tp, tp = str (topL s.cap live) := ⟨_, rfl⟩
  have htz : tp.size = 32 := by rw [htp, str_size, ht]
  have HT : Hid (tp = str (topL s.cap live)) := htp
  have hsz : (str (sideL s)).size ≤ 5000 := by rw [str_size]; exact hsl
  obtain ⟨sd, hsd⟩ : ∃ sd, sd = str (sideL s) := ⟨_, rfl⟩
  have HD : Hid (sd = str (sideL s)) := hsd
  rw [← htp]
  rw [← hsd] at hsz c4
  clear h6 hb1 HS HV HW htp hsd hs
  have tok1 : True := trivial
  obtain ⟨lt, h0, h1, h2, h3, h4, h5, h6, h7, h8, h9, h10, h11, h12⟩ := hst1
  by_cases hl1 : live = 1
  · subst hl1
    have c5 := fun w => filled_any tp ((1 + (hh : Int)) * 32) w (by omega) (by omega) (by omega)
    obtain ⟨t2, ht2⟩ : ∃ t2, t2 = str (fillL tp.data.toList ((1 + (hh : Int)) * 32).toNat) := ⟨_, rfl⟩
    have h2z : t2.size ≤ 10000 := by rw [ht2, str_size, fillL_length, len_list]; omega
    rw [← ht2] at c5
    have HT2 : Hid (t2 = str (fillL tp.data.toList ((1 + (hh : Int)) * 32).toNat)) := ht2
    clear ht2
    have c6 := fun w => filled_any (t2 ++ sd) (n : Int) w (by omega) (by omega) (by rw [ByteArray.size_append]; omega)
    go_wp2_with (first | (go_at_call 73; refine (c2 _).mono ?_; rintro e w' ⟨rfl, hw⟩; rw [hw]; clear hw w') | (go_at_call 126; have _t := tok1; refine (c5 _).mono ?_; rintro e w' ⟨rfl, hw⟩; rw [hw]; clear hw w' tok1) | (go_at_call 127; refine (c4 _ HV1.out).mono ?_; rintro e w2 ⟨rfl, hb2⟩) | (go_at_call 126; refine (c6 _).mono ?_; rintro e w' ⟨rfl, hw⟩; rw [hw]; clear hw w'))
    go_ret
    refine ⟨?_, HW1.out.trans (hb2.mono HW1.out.size)⟩
    show Ending.returned (Value.string (str (fillL (t2 ++ sd).data.toList ((n : Int)).toNat))) = _
    have e : (t2 ++ sd).data.toList = fillL (topL s.cap 1) ((1 + hh) * 32) ++ sideL s := by
      rw [HT2.out, HD.out, str_append, str_toList, HT.out, str_toList, show ((1 + (hh : Int)) * 32).toNat = (1 + hh) * 32 by omega]
    rw [e, HP.out, if_pos trivial, Int.toNat_natCast]
  · have hl1' : ¬ (live : Int) = 1 := by omega
    have c6 := fun w => filled_any (tp ++ sd) (n : Int) w (by omega) (by omega) (by rw [ByteArray.size_append]; omega)
    go_wp2_with (first | (go_at_call 127; refine (c4 _ HV1.out).mono ?_; rintro e w2 ⟨rfl, hb2⟩) | (go_at_call 126; refine (c6 _).mono ?_; rintro e w' ⟨rfl, hw⟩; rw [hw]; clear hw w'))
    go_ret
    refine ⟨?_, HW1.out.trans (hb2.mono HW1.out.size)⟩
    show Ending.returned (Value.string (str (fillL (tp ++ sd).data.toList ((n : Int)).toNat))) = _
    have e : (tp ++ sd).data.toList = topL s.cap live ++ sideL s := by
      rw [HD.out, HT.out, str_append, str_toList]
    rw [e, HP.out, if_neg hl1, Int.toNat_natCast]
end Go.Proofs.Ytabpkohcimiceaa
