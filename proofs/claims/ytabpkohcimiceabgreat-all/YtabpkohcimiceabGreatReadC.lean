import Derived.Test.YtabpkohcimiceabGreatRightB
import Derived.Test.YtabpkohcimiceabGreatSeen
import Derived.Test.YtabpkohcimiceabGreatPlanC
import Derived.WalkKit
import Derived.WalkSpells
import Derived.WalkLawsBesides
import Derived.OwnWalk
import Derived.Deep.AppendLies
namespace Go.Proofs.YtabpkohcimiceabGreat
open Go.RowKit
set_option linter.unusedVariables false

theorem Tryz.infoKept : (Tryz.prog.info? 154).map (fun i => (i.zero, i.size, i.bytes)) = some (some (.agg #[.int .i64 0, .int .i64 0, .string ⟨#[]⟩]), 3, 32) := by kernel_rfl

set_option maxRecDepth 100000 in
set_option maxHeartbeats 2000000 in
theorem isRight_any (s : StM) (v : Value) (w : World) (hs : StOk s) (hv : EntsAt w v s.kept) :
    Calls Tryz.prog 156 #[.agg (stCells s v)] w fun e w' => e = .returned (.bool (isRightB s)) ∧ Below w.heap.size w w' := by
  obtain ⟨a, cap, hva⟩ := hv.form
  subst hva
  have c1 := fun w => numbersRight_any s (.slice a s.kept.length cap) w
  have c2 := fun w => beginRight_any s (.slice a s.kept.length cap) w
  have c3 := fun w h => keptRight_any s (.slice a s.kept.length cap) w hs h
  have hst := StAt.madeD w s (.slice a s.kept.length cap)
  have hbl : Below w.heap.size w (w.alloc (.cells (stCells s (.slice a s.kept.length cap)) 90)) := (Below.refl _ _).alloc (Nat.le_refl _) _
  obtain ⟨P, hP⟩ : ∃ P, P = isRightB s := ⟨_, rfl⟩
  rw [← hP]
  rw [isRightB] at hP
  generalize decide (NumP s) = b1 at *
  generalize decide (BegP s) = b2 at *
  generalize rightF s s.kept.length = b3 at *
  have HP : Hid (P = (b1 && (b2 && b3))) := hP
  clear hP
  go_enter Tryz.func156, Tryz.ntmps156
  go_upto_region 1 with fail
  generalize w.alloc (.cells (stCells s (.slice a s.kept.length cap)) 90) = wb at hst hbl ⊢
  obtain ⟨B, hB⟩ : ∃ B, B = w.heap.size := ⟨_, rfl⟩
  rw [← hB] at hst ⊢
  have HW : Hid (Below w.heap.size w wb) := hbl
  have HS : Hid (StAt wb B s (.slice a s.kept.length cap)) := hst
  have HV : Hid (EntsAt wb (.slice a s.kept.length cap) s.kept) := hv.next hbl
  clear hB hbl hv
  obtain ⟨lt, h0, h1, h2, h3, h4, h5, h6, h7, h8, h9, h10, h11, h12⟩ := hst
  have nx : ∀ {w1 w2 : World}, Below w1.heap.size w1 w2 → StAt w1 B s (.slice a s.kept.length cap) → StAt w2 B s (.slice a s.kept.length cap) := fun h q => q.next h
  cases b1 with
  | false =>
    go_wp2_with (first | (go_at_call 166; refine (c1 _).mono ?_; rintro e w1 ⟨rfl, hb1⟩))
    go_ret
    exact ⟨by rw [HP.out]; rfl, HW.out.trans (hb1.mono HW.out.size)⟩
  | true =>
    cases b2 with
    | false =>
      go_wp2_with (first | (go_at_call 166; refine (c1 _).mono ?_; rintro e w1 ⟨rfl, hb1⟩; have HS1 : Hid (StAt w1 B s (.slice a s.kept.length cap)) := HS.out.next hb1; clear h0 h1 h2 h3 h4 h5 h6 h7 h8 h9 h10 h11 h12 lt; obtain ⟨lt, h0, h1, h2, h3, h4, h5, h6, h7, h8, h9, h10, h11, h12⟩ := HS1.out) | (go_at_call 167; refine (c2 _).mono ?_; rintro e w2 ⟨rfl, hb2⟩))
      go_ret
      exact ⟨by rw [HP.out]; rfl, below_tr (HW.out.trans (hb1.mono HW.out.size)) hb2⟩
    | true =>
      go_wp2_with (first | (go_at_call 166; refine (c1 _).mono ?_; rintro e w1 ⟨rfl, hb1⟩; have HS1 : Hid (StAt w1 B s (.slice a s.kept.length cap)) := HS.out.next hb1; have HV1 : Hid (EntsAt w1 (.slice a s.kept.length cap) s.kept) := HV.out.next hb1; clear h0 h1 h2 h3 h4 h5 h6 h7 h8 h9 h10 h11 h12 lt; obtain ⟨lt, h0, h1, h2, h3, h4, h5, h6, h7, h8, h9, h10, h11, h12⟩ := HS1.out) | (go_at_call 167; refine (c2 _).mono ?_; rintro e w2 ⟨rfl, hb2⟩; have HS2 : Hid (StAt w2 B s (.slice a s.kept.length cap)) := HS1.out.next hb2; have HV2 : Hid (EntsAt w2 (.slice a s.kept.length cap) s.kept) := HV1.out.next hb2; clear h0 h1 h2 h3 h4 h5 h6 h7 h8 h9 h10 h11 h12 lt; obtain ⟨lt, h0, h1, h2, h3, h4, h5, h6, h7, h8, h9, h10, h11, h12⟩ := HS2.out) | (go_at_call 168; refine (c3 _ HV2.out).mono ?_; rintro e w3 ⟨rfl, hb3⟩))
      go_ret
      exact ⟨by rw [HP.out]; rfl, below_tr (below_tr (HW.out.trans (hb1.mono HW.out.size)) hb2) hb3⟩

theorem partL_8 (l : List UInt8) (a : Nat) (h : a + 8 ≤ l.length) : partL l (a : Int) 8 = (l.drop a).take 8 := by
  rw [partL, if_pos (by omega), Int.toNat_natCast]; rfl

set_option maxRecDepth 100000 in
set_option maxHeartbeats 2000000 in
theorem readKept_any (t : ByteArray) (n : Nat) (w : World) (ht : t.size ≤ 1000) (hn : 40 + 10 * n ≤ t.size) :
    Calls Tryz.prog 155 #[.string t, .int .i64 n] w fun e w' => (∃ v, e = .returned v ∧ w'.ownsRow w.heap.size 154 3 v n (entsCells ((List.range n).map (entAt t.data.toList)))) ∧ Below w.heap.size w w' := by
  obtain ⟨i0, hi0, hz0, hz1, hz2⟩ := info_parts Tryz.infoKept
  have htl := len_list t
  go_enter Tryz.func155, Tryz.ntmps155
  go_wp2
  go_loopg [5, 6] (n + 1) (fun g v c wr => ∃ (i gg cap : Nat), c = .int .i64 i ∧ v = .slice (some ⟨gg, 0, none⟩) i cap ∧ i ≤ n ∧ g + i = n + 1 ∧ wr.ownsRow w.heap.size 154 3 v i (entsCells ((List.range i).map (entAt t.data.toList))) ∧ Below w.heap.size w wr)
  case atStart => exact ⟨0, _, _, rfl, rfl, by omega, by omega, World.ownsRow_lit w #[] 0 (Nat.le_refl _) (by unfold maxLen; omega) rfl, (Below.refl _ _).alloc (Nat.le_refl _) _⟩
  case round =>
    obtain ⟨i, gg, cap, rfl, rfl, hi, hg, hown, hb⟩ := hrel
    have hsz := hb.size
    have HB : Hid (Below w.heap.size w wr) := hb
    clear hb
    by_cases hlt : i < n
    · have hI : (i : Int) < (n : Int) := by omega
      have c1 := fun w => tbyte_any t (40 + (i : Int) * 10) w (by unfold maxLen; omega) (by omega)
      have c2 := fun w => tbyte_any t (40 + (i : Int) * 10 + 1) w (by unfold maxLen; omega) (by omega)
      have c3 := fun w => part_any t (40 + (i : Int) * 10 + 2) 8 w (by unfold maxLen; omega)
      rw [show (40 + (i : Int) * 10).toNat = 40 + 10 * i by omega] at c1
      rw [show (40 + (i : Int) * 10 + 1).toNat = 41 + 10 * i by omega] at c2
      rw [show 40 + (i : Int) * 10 + 2 = ((42 + 10 * i : Nat) : Int) by omega, partL_8 _ _ (by omega), show ((42 + 10 * i : Nat) : Int) = 40 + (i : Int) * 10 + 2 by omega] at c3
      have HE : Hid (entCells (entAt t.data.toList i) = [.int .i64 ((t.data.toList.getD (40 + 10 * i) 0).toNat : Int), .int .i64 ((t.data.toList.getD (41 + 10 * i) 0).toNat : Int), .string (str ((t.data.toList.drop (42 + 10 * i)).take 8))]) := rfl
      generalize (t.data.toList.getD (40 + 10 * i) 0).toNat = x0 at *
      generalize (t.data.toList.getD (41 + 10 * i) 0).toNat = x1 at *
      generalize str ((t.data.toList.drop (42 + 10 * i)).take 8) = x2 at *
      have tok1 : True := trivial
      go_wp2_with (first | (go_at_call 106; have _t := tok1; refine (c1 _).mono ?_; rintro e w' ⟨rfl, hw⟩; rw [hw]; clear hw w' tok1) | (go_at_call 106; refine (c2 _).mono ?_; rintro e w' ⟨rfl, hw⟩; rw [hw]; clear hw w') | (go_at_call 117; refine (c3 _).mono ?_; rintro e w' ⟨rfl, hw⟩; rw [hw]; clear hw w') | (at_builtin; refine wpList_append_lies _ rfl (.tmp 17) (.tmp 30) _ rfl w.heap.size 154 i0 _ 3 32 Tryz.underlying88 hi0 hz0 hz1 hz2 rfl (by omega) _ i (entsCells ((List.range i).map (entAt t.data.toList))) rfl (hown.alloc _) ⟨wr.heap.size, 0, none⟩ 1 1 [.int .i64 (x0 : Int), .int .i64 (x1 : Int), .string x2] rfl rfl (World.news_of_block (cs := #[.int .i64 (x0 : Int), .int .i64 (x1 : Int), .string x2]) (t := 154) (fr := (0, 0)) (heap_alloc_new _ _)) (by simp [Value.oneCell']) (by omega) (by unfold maxLen; omega) (by omega) (by simp; omega) (wr.heap.size + 1) (by simp) ?_; intro g2 cap2 w2 hown2 hgrow hat hlt2))
      go_roundg (gk - 1)
      case measure => omega
      case rel =>
        refine ⟨i + 1, g2, cap2, by simp, rfl, by omega, by omega, ?_, ?_⟩
        · rw [kept_push, HE.out]; exact hown2
        · exact grown_below (HB.out.alloc hsz _) (hown.alloc _) hgrow
    · obtain rfl : i = n := by omega
      go_wp2
      go_ret
      exact ⟨⟨_, rfl, hown⟩, HB.out⟩
end Go.Proofs.YtabpkohcimiceabGreat
