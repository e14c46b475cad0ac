import Derived.Test.YtabpkohcimiceabGreatPlanA
import Derived.Laws.ResultCell
namespace Go.Proofs.YtabpkohcimiceabGreat
set_option maxRecDepth 100000
set_option maxHeartbeats 1000000
open Go.RowKit
set_option linter.unusedVariables false
theorem Tryz.infoRecord : (Tryz.prog.info? 163).map (fun i => (i.zero, i.size, i.bytes)) = some (some (.agg #[.bool false, .int .i64 0, .string ⟨#[]⟩]), 3, 32) := by kernel_rfl
def fewL (n : Nat) : Nat := n / 33 + n % 33
theorem few_le (n : Nat) : ∀ (k : Nat) (p : List UInt8) (l : List RecM), recsF n k p = some l → fewL p.length ≤ k
  | _, [], _, _ => by simp [fewL]
  | 0, _ :: _, _, h => by simp [recsF] at h
  | k + 1, b :: t, l, h => by
    rw [recsF] at h
    by_cases h1 : b = 255
    · rw [if_pos h1] at h
      obtain ⟨l', h2, _⟩ := Option.map_eq_some_iff.1 h
      have := few_le n k t l' h2
      rw [List.length_cons]; unfold fewL at *; omega
    · rw [if_neg h1] at h
      by_cases h2 : n ≤ b.toNat ∨ t.length < 32
      · rw [if_pos h2] at h; cases h
      · rw [if_neg h2] at h
        obtain ⟨l', h3, _⟩ := Option.map_eq_some_iff.1 h
        have := few_le n k _ l' h3
        rw [List.length_drop] at this
        rw [List.length_cons]; unfold fewL at *; omega
theorem fewest_any (n : Nat) (w : World) (h : n ≤ maxLen) : Calls Tryz.prog 148 #[.int .i64 n] w fun e w' => e = .returned (.int .i64 (fewL n : Nat)) ∧ w' = w := by
  unfold maxLen at h
  go_enter Tryz.func148, Tryz.ntmps148
  go_wp2; go_ret
  refine ⟨?_, rfl⟩
  show Ending.returned (Value.int .i64 ((n : Int) / 33 + (n : Int) % 33)) = _
  rw [show (n : Int) / 33 + (n : Int) % 33 = ((fewL n : Nat) : Int) by unfold fewL; omega]
def readR (p : ByteArray) (k n : Nat) (h : k < p.size) : RecM × Nat :=
  if p[k] = 255 then (⟨true, 0, []⟩, 1) else if n ≤ p[k].toNat ∨ p.size < k + 33 then (⟨false, 0, []⟩, 0) else (⟨false, p[k].toNat, (p.data.toList.drop (k + 1)).take 32⟩, 33)
theorem readRecord_any (p : ByteArray) (k n : Nat) (w : World) (hp : p.size ≤ maxLen) (hk : k < p.size) (hn : n ≤ 1000) :
    Calls Tryz.prog 149 #[.string p, .int .i64 k, .int .i64 n] w fun e w' => e = .returned (.tuple #[.agg #[.bool (readR p k n hk).1.stop, .int .i64 ((readR p k n hk).1.to : Int), .string (str (readR p k n hk).1.data)], .int .i64 ((readR p k n hk).2 : Int)]) ∧ Below w.heap.size w w' := by
  have c1 := fun w => tbyte_any p (k : Int) w hp (by omega)
  rw [Int.toNat_natCast, getD_at p k hk] at c1
  have c2 := fun w => part_any p ((k : Int) + 1) 32 w hp
  unfold maxLen at hp
  have hb0 := p[k].toNat_lt
  by_cases h255 : p[k] = 255
  · have e : readR p k n hk = (⟨true, 0, []⟩, 1) := by rw [readR, if_pos h255]
    rw [e]
    have hq : ((p[k].toNat : Int) == 255) = true := by rw [h255]; rfl
    go_enter Tryz.func149, Tryz.ntmps149
    go_wp2_with (first | (go_at_call 106; refine (c1 _).mono ?_; rintro e w' ⟨rfl, hw⟩; rw [hw]; clear hw w'))
    (try simp only [Exit.inBlock, Exit.then])
    refine bodyPost_ret (v := .tuple #[.agg #[.bool true, .int .i64 0, .string (str [])], .int .i64 1]) (by rw [results_cell_tmp (fn := Tryz.f149) rfl]; simp [go_sem]; try rfl) rfl ?_
    refine ⟨rfl, ?_⟩
    repeat (first | exact Below.refl _ _ | apply Below.drew | (refine Below.setCell ?_ (by simp) _) | (refine Below.alloc ?_ (by first | exact Nat.le_refl _ | simp) _))
  · have hq : ((p[k].toNat : Int) == 255) = false := by
      rw [beq_eq_false_iff_ne]; intro h
      exact h255 (UInt8.toNat_inj.1 (by show p[k].toNat = 255; omega))
    by_cases hbad : n ≤ p[k].toNat ∨ p.size < k + 33
    · have e : readR p k n hk = (⟨false, 0, []⟩, 0) := by rw [readR, if_neg h255, if_pos hbad]
      rw [e]
      by_cases hbn : n ≤ p[k].toNat
      · have hbI : (n : Int) ≤ (p[k].toNat : Int) := by omega
        clear hbad
        go_enter Tryz.func149, Tryz.ntmps149
        go_wp2_with (first | (go_at_call 106; refine (c1 _).mono ?_; rintro e w' ⟨rfl, hw⟩; rw [hw]; clear hw w') | (go_at_call 117; refine (c2 _).mono ?_; rintro e w' ⟨rfl, hw⟩; rw [hw]; clear hw w'))
        (try simp only [Exit.inBlock, Exit.then])
        refine bodyPost_ret (v := .tuple #[.agg #[.bool false, .int .i64 0, .string (str [])], .int .i64 0]) (by rw [results_cell_tmp (fn := Tryz.f149) rfl]; simp [go_sem]; try rfl) rfl ?_
        refine ⟨rfl, ?_⟩
        repeat (first | exact Below.refl _ _ | apply Below.drew | (refine Below.setCell ?_ (by simp) _) | (refine Below.alloc ?_ (by first | exact Nat.le_refl _ | simp) _))
      · have hbI : ¬ (n : Int) ≤ (p[k].toNat : Int) := by omega
        have e2 : partL p.data.toList ((k : Int) + 1) 32 = [] := by rw [partL, if_neg (by rw [len_list]; omega)]
        rw [e2] at c2
        have c2' : ∀ w, Calls Tryz.prog 117 #[.string p, .int .i64 ((k : Int) + 1), .int .i64 32] w fun e w' => e = .returned (.string ⟨#[]⟩) ∧ w' = w := c2
        clear hbad c2 e2
        go_enter Tryz.func149, Tryz.ntmps149
        go_wp2_with (first | (go_at_call 106; refine (c1 _).mono ?_; rintro e w' ⟨rfl, hw⟩; rw [hw]; clear hw w') | (go_at_call 117; refine (c2' _).mono ?_; rintro e w' ⟨rfl, hw⟩; rw [hw]; clear hw w'))
        (try simp only [Exit.inBlock, Exit.then])
        refine bodyPost_ret (v := .tuple #[.agg #[.bool false, .int .i64 0, .string (str [])], .int .i64 0]) (by rw [results_cell_tmp (fn := Tryz.f149) rfl]; simp [go_sem]; try rfl) rfl ?_
        refine ⟨rfl, ?_⟩
        repeat (first | exact Below.refl _ _ | apply Below.drew | (refine Below.setCell ?_ (by simp) _) | (refine Below.alloc ?_ (by first | exact Nat.le_refl _ | simp) _))
    · have e : readR p k n hk = (⟨false, p[k].toNat, (p.data.toList.drop (k + 1)).take 32⟩, 33) := by rw [readR, if_neg h255, if_neg hbad]
      rw [e]
      have hbI : ¬ (n : Int) ≤ (p[k].toNat : Int) := by omega
      have e2 : partL p.data.toList ((k : Int) + 1) 32 = (p.data.toList.drop (k + 1)).take 32 := by
        rw [partL, if_pos (by rw [len_list]; omega), show ((k : Int) + 1).toNat = k + 1 by omega]; rfl
      rw [e2] at c2
      have hx : ((p.data.toList.drop (k + 1)).take 32).length = 32 := by rw [List.length_take, List.length_drop, len_list]; omega
      clear hbad e2 e
      generalize (p.data.toList.drop (k + 1)).take 32 = x at c2 hx ⊢
      have hne : ((str x).toList == ([] : List UInt8)) = false := by
        rw [ByteArray.toList_eq, str_toList]
        cases x with
        | nil => simp at hx
        | cons a b => rfl
      go_enter Tryz.func149, Tryz.ntmps149
      go_wp2_with (first | (go_at_call 106; refine (c1 _).mono ?_; rintro e w' ⟨rfl, hw⟩; rw [hw]; clear hw w') | (go_at_call 117; refine (c2 _).mono ?_; rintro e w' ⟨rfl, hw⟩; rw [hw]; clear hw w'))
      (try simp only [Exit.inBlock, Exit.then])
      refine bodyPost_ret (v := .tuple #[.agg #[.bool false, .int .i64 (p[k].toNat : Int), .string (str x)], .int .i64 33]) (by rw [results_cell_tmp (fn := Tryz.f149) rfl]; simp [go_sem]; try rfl) rfl ?_
      refine ⟨rfl, ?_⟩
      repeat (first | exact Below.refl _ _ | apply Below.drew | (refine Below.setCell ?_ (by simp) _) | (refine Below.alloc ?_ (by first | exact Nat.le_refl _ | simp) _))
def DevOut (w w' : World) (r : Option (List RecM)) (e : Ending) : Prop :=
  match r with
  | none => e = .returned (.tuple #[.slice none 0 0, .bool false])
  | some l => ∃ g cap, e = .returned (.tuple #[.slice (some ⟨g, 0, none⟩) l.length cap, .bool true]) ∧ w'.ownsRow w.heap.size 163 3 (.slice (some ⟨g, 0, none⟩) l.length cap) l.length (recsCells (devL l))
theorem cons_at (p : ByteArray) (k : Nat) (h : k < p.size) : p.data.toList.drop k = p[k] :: p.data.toList.drop (k + 1) := by
  rw [List.drop_eq_getElem_cons (by rw [len_list]; exact h)]; rfl
theorem recsF_stop' (n g : Nat) (p : ByteArray) (k : Nat) (h : k < p.size) (h255 : p[k] = 255) : recsF n (g + 1) (p.data.toList.drop k) = (recsF n g (p.data.toList.drop (k + 1))).map (⟨true, 255, []⟩ :: ·) := by
  rw [cons_at p k h, recsF, if_pos h255]
theorem recsF_bad' (n g : Nat) (p : ByteArray) (k : Nat) (h : k < p.size) (h255 : p[k] ≠ 255) (hb : n ≤ p[k].toNat ∨ p.size < k + 33) : recsF n g (p.data.toList.drop k) = none := by
  rw [cons_at p k h]
  cases g with
  | zero => rw [recsF]
  | succ g => rw [recsF, if_neg h255, if_pos (by rw [List.length_drop, len_list]; omega)]
theorem recsF_write' (n g : Nat) (p : ByteArray) (k : Nat) (h : k < p.size) (h255 : p[k] ≠ 255) (hb1 : ¬ (n ≤ p[k].toNat ∨ p.size < k + 33)) : recsF n (g + 1) (p.data.toList.drop k) = (recsF n g (p.data.toList.drop (k + 33))).map (⟨false, p[k].toNat, (p.data.toList.drop (k + 1)).take 32⟩ :: ·) := by
  rw [cons_at p k h, recsF, if_neg h255, if_neg (by rw [List.length_drop, len_list]; omega), List.drop_drop]
theorem recsF_over' (n : Nat) (p : ByteArray) (k : Nat) (h : k < p.size) : recsF n 0 (p.data.toList.drop k) = none := by
  rw [cons_at p k h]; rfl
theorem readR_step (p : ByteArray) (k n g : Nat) (h : k < p.size) :
    ((readR p k n h).2 = 0 → recsF n g (p.data.toList.drop k) = none) ∧
    ((readR p k n h).2 ≠ 0 → k + (readR p k n h).2 ≤ p.size ∧ (readR p k n h).2 ≤ 33 ∧ ∃ r, devR r = (readR p k n h).1 ∧ recsF n (g + 1) (p.data.toList.drop k) = (recsF n g (p.data.toList.drop (k + (readR p k n h).2))).map (r :: ·)) := by
  by_cases h255 : p[k] = 255
  · have e : readR p k n h = (⟨true, 0, []⟩, 1) := by rw [readR, if_pos h255]
    rw [e]
    refine ⟨by simp, fun _ => ⟨by show k + 1 ≤ _; omega, by show 1 ≤ 33; omega, ⟨true, 255, []⟩, rfl, ?_⟩⟩
    exact recsF_stop' n g p k h h255
  · by_cases hbad : n ≤ p[k].toNat ∨ p.size < k + 33
    · have e : readR p k n h = (⟨false, 0, []⟩, 0) := by rw [readR, if_neg h255, if_pos hbad]
      rw [e]
      exact ⟨fun _ => recsF_bad' n g p k h h255 hbad, by simp⟩
    · have e : readR p k n h = (⟨false, p[k].toNat, (p.data.toList.drop (k + 1)).take 32⟩, 33) := by rw [readR, if_neg h255, if_neg hbad]
      rw [e]
      refine ⟨by simp, fun _ => ⟨by show k + 33 ≤ _; omega, by show 33 ≤ 33; omega, ⟨false, p[k].toNat, (p.data.toList.drop (k + 1)).take 32⟩, rfl, ?_⟩⟩
      exact recsF_write' n g p k h h255 hbad
theorem devL_push (done : List RecM) (r : RecM) : recsCells (devL (done ++ [r])) = recsCells (devL done) ++ recCells (devR r) := by
  rw [devL, List.map_append, recsCells_append]; simp [recsCells, devL]
theorem read_any (p : ByteArray) (n : Nat) (w : World) (hp : p.size ≤ maxLen) (hn : n ≤ 1000) :
    Calls Tryz.prog 126 #[.string p, .int .i64 n] w fun e w' => DevOut w w' (recsL p.data.toList n) e ∧ Below w.heap.size w w' := by
  obtain ⟨i0, hi0, hz0, hz1, hz2⟩ := info_parts Tryz.infoRecord
  have c0 := fun w => fewest_any p.size w hp
  have cr := fun k hk w => readRecord_any p k n w hp hk hn
  unfold maxLen at hp
  have hfl : fewL p.size ≤ p.size := by unfold fewL; omega
  by_cases hfew : 100 < fewL p.size
  · have e : recsL p.data.toList n = none := by
      cases h : recsL p.data.toList n with
      | none => rfl
      | some l => have := few_le n 100 _ l h; rw [len_list] at this; omega
    rw [e]
    generalize fewL p.size = q at *
    have hfI : (100 : Int) < (q : Int) := by omega
    go_enter Tryz.func126, Tryz.ntmps126
    go_wp2_with (first | (go_at_call 148; refine (c0 _).mono ?_; rintro e w' ⟨rfl, hw⟩; rw [hw]; clear hw w'))
    go_ret2; exact ⟨rfl, Below.refl _ _⟩
  generalize fewL p.size = q at *
  have hfI : ¬ (100 : Int) < (q : Int) := by omega
  go_enter Tryz.func126, Tryz.ntmps126
  go_wp2_with (first | (go_at_call 148; refine (c0 _).mono ?_; rintro e w' ⟨rfl, hw⟩; rw [hw]; clear hw w'))
  clear c0
  go_loopg [6, 7] 101 (fun g v r wr => ∃ (done : List RecM) (k gg cap : Nat), r = .int .i64 k ∧ v = .slice (some ⟨gg, 0, none⟩) done.length cap ∧ k ≤ p.size ∧ done.length + g = 101 ∧ 1 ≤ g ∧ recsL p.data.toList n = (recsF n (g - 1) (p.data.toList.drop k)).map (done ++ ·) ∧ wr.ownsRow w.heap.size 163 3 v done.length (recsCells (devL done)) ∧ Below w.heap.size w wr)
  case atStart =>
    refine ⟨[], 0, _, _, rfl, rfl, by omega, rfl, by omega, ?_, World.ownsRow_lit w #[] 0 (Nat.le_refl _) (by unfold maxLen; omega) rfl, (Below.refl _ _).alloc (Nat.le_refl _) _⟩
    show recsF n 100 _ = _
    rw [List.drop_zero]
    cases recsF n 100 p.data.toList <;> rfl
  case round =>
    obtain ⟨done, k, gg, cap, rfl, rfl, hk, hg1, hg2, hr, hown, hb⟩ := hrel; have HR : Hid (recsL p.data.toList n = (recsF n (gk - 1) (p.data.toList.drop k)).map (done ++ ·)) := hr; have HB := hid hb; have hsz := hb.size; clear hr hb
    by_cases hlt : k < p.size
    · have hI : (k : Int) < (p.size : Int) := by omega
      have cr1 := cr k hlt; obtain ⟨st0, st1⟩ := readR_step p k n (gk - 2) hlt
      have st0' := fun h => (readR_step p k n (gk - 1) hlt).1 h
      generalize readR p k n hlt = rr at *
      obtain ⟨rc, sz⟩ := rr
      simp only at cr1 st0 st1 st0'
      clear cr
      by_cases hz : sz = 0
      · subst hz
        have e : recsL p.data.toList n = none := by rw [HR.out, st0' rfl]; rfl
        have HE : Hid (recsL p.data.toList n = none) := e; clear e st0 st1 st0'
        go_wp2_with (first | (go_at_call 149; refine (cr1 _).mono ?_; rintro e w1 ⟨rfl, hb1⟩))
        go_ret2; rw [HE.out]
        refine ⟨rfl, ?_⟩
        have hbb := below_tr HB.out hb1
        repeat (first | exact hbb | apply Below.drew | (refine Below.setCell ?_ (by have := hbb.size; simp; omega) _) | (refine Below.alloc ?_ (by have := hbb.size; first | omega | (simp; omega)) _))
      · obtain ⟨hs1, hs2, r, hrr, hrf⟩ := st1 hz
        have hzI : ((sz : Int) == 0) = false := by rw [beq_eq_false_iff_ne]; omega
        have hzI2 : ¬ (sz : Int) = 0 := by omega
        by_cases hlast : gk = 1
        · have hdl : done.length = 100 := by omega
          have e : recsL p.data.toList n = none := by rw [HR.out, hlast, show 1 - 1 = 0 from rfl, recsF_over' n p k hlt]; rfl
          have HE : Hid (recsL p.data.toList n = none) := e; clear e st0 st1 st0' hrf
          go_wp2_with (first | (go_at_call 149; refine (cr1 _).mono ?_; rintro e w1 ⟨rfl, hb1⟩))
          go_ret2; rw [HE.out]
          refine ⟨rfl, ?_⟩
          have hbb := below_tr HB.out hb1
          repeat (first | exact hbb | apply Below.drew | (refine Below.setCell ?_ (by have := hbb.size; simp; omega) _) | (refine Below.alloc ?_ (by have := hbb.size; first | omega | (simp; omega)) _))
        · have hdl : done.length < 100 := by omega
          have hdI : ((done.length : Int) == 100) = false := by rw [beq_eq_false_iff_ne]; omega
          have HF : Hid (recsF n (gk - 1) (p.data.toList.drop k) = (recsF n (gk - 2) (p.data.toList.drop (k + sz))).map (r :: ·)) := by
            show _ = _
            rw [show gk - 1 = gk - 2 + 1 by omega]; exact hrf
          have HRR : Hid (devR r = rc) := hrr; clear st0 st1 st0' hrf hrr
          go_upto_region 9 with (first | (go_at_call 149; refine (cr1 _).mono ?_; rintro e w1 ⟨rfl, hb1⟩))
          have hownc := ownsRow_below hown hb1; have hb1s := hb1.size
          go_wp2_with (at_builtin; refine wpList_append_lies _ rfl (.tmp 33) (.tmp 35) _ rfl w.heap.size 163 i0 _ 3 32 Tryz.underlying120 hi0 hz0 hz1 hz2 rfl (by omega) _ done.length (recsCells (devL done)) rfl ((hownc.alloc _).alloc _) ⟨w1.heap.size + 1, 0, none⟩ 1 1 [.bool rc.stop, .int .i64 rc.to, .string (str rc.data)] rfl rfl (World.news_of_block (cs := #[.bool rc.stop, .int .i64 rc.to, .string (str rc.data)]) (t := 163) (fr := (0, 0)) (by have := heap_alloc_new (w1.alloc (Obj.cells #[.bool rc.stop, .int .i64 rc.to, .string (str rc.data)] 163)) (Obj.cells #[.bool rc.stop, .int .i64 rc.to, .string (str rc.data)] 163); simpa using this)) (by simp [Value.oneCell']) (by omega) (by unfold maxLen; omega) (by omega) (by simp; omega) (w1.heap.size + 2) (by simp) ?_; intro g2 cap2 w2 hown2 hgrow hat hlt2)
          go_roundg (gk - 1)
          case measure => omega
          case rel =>
            have el : (done ++ [r]).length = done.length + 1 := by simp
            refine ⟨done ++ [r], k + sz, g2, cap2, by simp, by rw [el], by omega, by rw [el]; omega, by omega, ?_, ?_, ?_⟩
            · rw [HR.out, HF.out, map_push, show gk - 1 - 1 = gk - 2 by omega]
            · rw [el, devL_push, HRR.out]; exact hown2
            · exact grown_below (((below_tr HB.out hb1).alloc (by omega) _).alloc (by simp; omega) _) ((hownc.alloc _).alloc _) hgrow
    · obtain rfl : k = p.size := by omega
      have e : recsL p.data.toList n = some done := by
        rw [HR.out, List.drop_of_length_le (by rw [len_list]; omega)]
        cases gk - 1 <;> simp [recsF]
      have HE : Hid (recsL p.data.toList n = some done) := e; clear e; go_wp2; go_ret2; rw [HE.out]; exact ⟨⟨_, _, rfl, hown⟩, HB.out⟩
end Go.Proofs.YtabpkohcimiceabGreat
