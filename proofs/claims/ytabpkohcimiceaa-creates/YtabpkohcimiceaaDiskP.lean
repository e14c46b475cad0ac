import Derived.Test.YtabpkohcimiceaaDiskR
import Derived.Test.YtabpkohcimiceaaFlip
import Derived.WalkKit
import Derived.WalkSpells
import Derived.WalkLawsBesides
import Derived.OwnWalk
import Derived.Deep.RegionHeld3
import Derived.Deep.AppendLies
import Derived.Deep.DrawnRows
import Derived.Deep.DeepCutAuto
namespace Go.Proofs.Ytabpkohcimiceaa
open Go.RowKit
set_option linter.unusedVariables false

theorem Try.infoRec : (Try.prog.info? 98).map (fun i => (i.zero, i.size, i.bytes)) = some (some (.agg #[.bool false, .int .i64 0, .string ⟨#[]⟩]), 3, 32) := by kernel_rfl

/-- What Records answers. -/
def RecsOut (w w' : World) (r : Option (List RecM)) (e : Ending) : Prop :=
  match r with
  | none => e = .returned (.tuple #[.slice none 0 0, .bool false])
  | some l => ∃ v, e = .returned (.tuple #[v, .bool true]) ∧ w'.ownsRow w.heap.size 98 3 v l.length (recsCells l)

theorem recsF_stop (n k : Nat) (m : ByteArray) (h0 : 0 < m.size) (h : m[0] = 255) : recsF n (k + 1) m.data.toList = (recsF n k (m.data.toList.drop 1)).map (⟨true, 255, []⟩ :: ·) := by
  have hs := self_at m.data.toList 0 (by rw [len_list]; exact h0)
  have e : m.data.toList.getD 0 0 = m[0] := by have := getD_drop m 0 0 (by omega); simpa using this
  rw [e] at hs
  simp only [List.take_zero, List.nil_append, Nat.zero_add] at hs
  conv => lhs; rw [hs]
  rw [recsF, if_pos h]
theorem recsF_bad (n k : Nat) (m : ByteArray) (h0 : 0 < m.size) (h : m[0] ≠ 255) (hb : n ≤ m[0].toNat ∨ m.size < 33) : recsF n k m.data.toList = none := by
  have hs := self_at m.data.toList 0 (by rw [len_list]; exact h0)
  have e : m.data.toList.getD 0 0 = m[0] := by have := getD_drop m 0 0 (by omega); simpa using this
  rw [e] at hs
  simp only [List.take_zero, List.nil_append, Nat.zero_add] at hs
  rw [hs]
  cases k with
  | zero => rw [recsF]
  | succ k => rw [recsF, if_neg h, if_pos]; rw [List.length_drop, len_list]; omega
theorem recsF_write (n k : Nat) (m : ByteArray) (h0 : 0 < m.size) (h : m[0] ≠ 255) (hb1 : m[0].toNat < n) (hb2 : 33 ≤ m.size) : recsF n (k + 1) m.data.toList = (recsF n k (m.data.toList.drop 33)).map (⟨false, m[0].toNat, (m.data.toList.drop 1).take 32⟩ :: ·) := by
  have hs := self_at m.data.toList 0 (by rw [len_list]; exact h0)
  have e : m.data.toList.getD 0 0 = m[0] := by have := getD_drop m 0 0 (by omega); simpa using this
  rw [e] at hs
  simp only [List.take_zero, List.nil_append, Nat.zero_add] at hs
  conv => lhs; rw [hs]
  rw [recsF, if_neg h, if_neg (by rw [List.length_drop, len_list]; omega), List.drop_drop]
theorem recsF_over (n : Nat) (m : ByteArray) (h0 : 0 < m.size) : recsF n 0 m.data.toList = none := by
  have hs := self_at m.data.toList 0 (by rw [len_list]; exact h0)
  rw [hs]; rfl

theorem ext_1_33 (m : ByteArray) : (m.extract 1 33).data.toList = (m.data.toList.drop 1).take 32 := by simp [ByteArray.data_extract]
theorem heap_new_set (wc : World) (a : Addr) (v : Value) (o : Obj) : ((wc.setCell a v).alloc o).heap[wc.heap.size]? = some o := by
  have h := heap_alloc_new (wc.setCell a v) o
  rwa [World.size_setCell] at h
theorem grown_below {w X w2 : World} {v : Value} {n : Nat} {xs : List Value} {e : TypeId} {size : Nat} (hb : Below w.heap.size w X) (hown : X.ownsRow w.heap.size e size v n xs) (hg : X.grownBy w2 v.ownBlock) : Below w.heap.size w w2 :=
  hb.grown hg hb.size (fun k hk => (hown.lt k hk).1)
theorem recs_push (done : List RecM) (r : RecM) : recsCells (done ++ [r]) = recsCells done ++ recCells r := by
  rw [recsCells_append]; simp [recsCells]
theorem map_push (r : RecM) (done : List RecM) (o : Option (List RecM)) : ((o.map (r :: ·)).map (done ++ ·)) = o.map ((done ++ [r]) ++ ·) := by
  cases o <;> simp

/-- The variable r of a round: a new block of three cells. -/
structure RecVar (wr wc : World) (st : Bool) (goes : Int) : Prop where
  below : Below wr.heap.size wr wc
  size : wr.heap.size < wc.heap.size
  c0 : wc.cell? ⟨wr.heap.size, 0, none⟩ = some (.bool st)
  c1 : wc.cell? ⟨wr.heap.size, 1, none⟩ = some (.int .i64 goes)
  c2 : wc.cell? ⟨wr.heap.size, 2, none⟩ = some (.string ⟨#[]⟩)
  f2 : wc.frozen? ⟨wr.heap.size, 2, none⟩ = false

set_option maxRecDepth 100000 in
set_option maxHeartbeats 1000000 in
theorem records_any (p : ByteArray) (n : Nat) (w : World) (hp : p.size ≤ maxLen) (hn : n ≤ 1000) :
    Calls Try.prog 68 #[.string p, .int .i64 n] w fun e w' => RecsOut w w' (recsL p.data.toList n) e ∧ Below w.heap.size w w' := by
  obtain ⟨i0, hi0, hz0, hz1, hz2⟩ := info_parts Try.infoRec
  unfold maxLen at hp
  go_enter Try.func68, Try.ntmps68
  go_wp2
  go_loopg [6, 7] 101 (fun g v r wr => ∃ (done : List RecM) (m : ByteArray), r = .string m ∧ m.size ≤ 9223372036854775807 ∧ done.length + g = 101 ∧ 1 ≤ g ∧ recsL p.data.toList n = (recsF n (g - 1) m.data.toList).map (done ++ ·) ∧ wr.ownsRow w.heap.size 98 3 v done.length (recsCells done) ∧ Below w.heap.size w wr)
  case atStart =>
    refine ⟨[], p, rfl, by omega, rfl, by omega, ?_, World.ownsRow_nil _ _ _ _, Below.refl _ _⟩
    show recsF n 100 _ = _
    cases recsF n 100 p.data.toList <;> rfl
  case round =>
    obtain ⟨done, m, rfl, hm, hg1, hg2, hr, hown, hb⟩ := hrel
    have HR : Hid (recsL p.data.toList n = (recsF n (gk - 1) m.data.toList).map (done ++ ·)) := hr
    have HB : Hid (Below w.heap.size w wr) := hb
    have hsz := hb.size
    clear hr hb
    by_cases h0 : 0 < m.size
    · have hne : (m.toList == ([] : List UInt8)) = false := by
        rw [ByteArray.toList_eq]
        have := ne_nil m h0
        cases hh : m.data.toList with
        | nil => exact absurd hh this
        | cons a b => rfl
      have h0I : (0 : Int) < (m.size : Int) := by omega
      by_cases h255 : m[0] = 255
      · have hq : ((m[0].toNat : Int) == 255) = true := by rw [h255]; rfl
        go_upto_region 4 with fail
        go_cut [8] (fun q wx => q = .pointer (some ⟨wr.heap.size, 0, none⟩) ∧ RecVar wr wx true 255)
        case first =>
          go_region
          go_wp2_with fail
          go_meet
          case rel =>
            refine ⟨rfl, ?_, ?_, ?_, ?_, ?_, ?_⟩
            · repeat (first | exact Below.refl _ _ | apply Below.drew | (refine Below.setCell ?_ (by simp) _) | (refine Below.alloc ?_ (by first | exact Nat.le_refl _ | simp) _))
            · simp
            · simp [go_sem]
            · simp [go_sem]
            · simp [go_sem]
            · simp [go_sem]
        case rest =>
          obtain ⟨rfl, hV⟩ := hcut
          obtain ⟨hbc, hzc, c0, c1, c2, f2⟩ := hV
          have hownc := ownsRow_below hown hbc
          have HBC : Hid (Below wr.heap.size wr wc) := hbc
          clear hbc
          by_cases hlast : gk = 1
          · subst hlast
            have hdl : done.length = 100 := by omega
            go_wp2_with (at_builtin; refine wpList_append_lies _ rfl (.tmp 37) (.tmp 39) _ rfl w.heap.size 98 i0 _ 3 32 Try.underlying94 hi0 hz0 hz1 hz2 rfl (by omega) u6 done.length (recsCells done) rfl (hownc.alloc _) ⟨wc.heap.size, 0, none⟩ 1 1 [.bool true, .int .i64 255, .string ⟨#[]⟩] rfl rfl (World.news_of_block (cs := #[.bool true, .int .i64 255, .string ⟨#[]⟩]) (t := 98) (fr := (0, 0)) (heap_alloc_new _ _)) (by simp [Value.oneCell']) (by omega) (by unfold maxLen; omega) (by omega) (by simp; omega) (wc.heap.size + 1) (by simp) ?_; intro gg cap w2 hown2 hgrow hat hlt2)
            go_ret2
            refine ⟨?_, ?_⟩
            · have e : recsL p.data.toList n = none := by rw [HR.out, show 1 - 1 = 0 from rfl, recsF_over n m h0]; rfl
              rw [e]; rfl
            · exact grown_below ((below_tr HB.out HBC.out).alloc (by have := HB.out.size; omega) _) (hownc.alloc _) hgrow
          · have hdl : done.length < 100 := by omega
            go_wp2_with (at_builtin; refine wpList_append_lies _ rfl (.tmp 37) (.tmp 39) _ rfl w.heap.size 98 i0 _ 3 32 Try.underlying94 hi0 hz0 hz1 hz2 rfl (by omega) u6 done.length (recsCells done) rfl (hownc.alloc _) ⟨wc.heap.size, 0, none⟩ 1 1 [.bool true, .int .i64 255, .string ⟨#[]⟩] rfl rfl (World.news_of_block (cs := #[.bool true, .int .i64 255, .string ⟨#[]⟩]) (t := 98) (fr := (0, 0)) (heap_alloc_new _ _)) (by simp [Value.oneCell']) (by omega) (by unfold maxLen; omega) (by omega) (by simp; omega) (wc.heap.size + 1) (by simp) ?_; intro gg cap w2 hown2 hgrow hat hlt2)
            go_roundg (gk - 1)
            case measure => omega
            case rel =>
              have el : (done ++ [(⟨true, 255, []⟩ : RecM)]).length = done.length + 1 := by simp
              refine ⟨done ++ [⟨true, 255, []⟩], m.extract 1 m.size, rfl, by simp; omega, by rw [el]; omega, by omega, ?_, ?_, ?_⟩
              · obtain ⟨q, hq⟩ : ∃ q, gk = q + 2 := ⟨gk - 2, by omega⟩
                rw [HR.out, hq, show q + 2 - 1 = q + 1 by omega, recsF_stop n q m h0 h255, map_push, show q + 1 - 1 = q by omega, ext_drop]
              · rw [el, recs_push]; exact hown2
              · exact grown_below ((below_tr HB.out HBC.out).alloc (by have := HB.out.size; omega) _) (hownc.alloc _) hgrow
      · have hq : ((m[0].toNat : Int) == 255) = false := by
          rw [beq_eq_false_iff_ne]; intro h
          exact h255 (UInt8.toNat_inj.1 (by show m[0].toNat = 255; omega))
        have hb0 := m[0].toNat_lt
        go_upto_region 4 with fail
        go_cut [8] (fun q wx => q = .pointer (some ⟨wr.heap.size, 0, none⟩) ∧ RecVar wr wx false (m[0].toNat : Int))
        case first =>
          go_region
          go_wp2_with fail
          go_meet
          case rel =>
            refine ⟨rfl, ?_, ?_, ?_, ?_, ?_, ?_⟩
            · repeat (first | exact Below.refl _ _ | apply Below.drew | (refine Below.setCell ?_ (by simp) _) | (refine Below.alloc ?_ (by first | exact Nat.le_refl _ | simp) _))
            · simp
            · simp [go_sem]
            · simp [go_sem]
            · simp [go_sem]
            · simp [go_sem]
        case rest =>
          obtain ⟨rfl, hV⟩ := hcut
          obtain ⟨hbc, hzc, c0, c1, c2, f2⟩ := hV
          have HBC : Hid (Below wr.heap.size wr wc) := hbc
          clear hbc
          by_cases hbad : n ≤ m[0].toNat ∨ m.size < 33
          · have e : recsL p.data.toList n = none := by rw [HR.out, recsF_bad n _ m h0 h255 hbad]; rfl
            have HE : Hid (recsL p.data.toList n = none) := e
            clear e
            rcases hbad with hbad | hbad
            · have hbI : (n : Int) ≤ (m[0].toNat : Int) := by omega
              go_wp2
              go_ret2
              rw [HE.out]
              exact ⟨rfl, below_tr HB.out HBC.out⟩
            · by_cases hbn : n ≤ m[0].toNat
              · have hbI : (n : Int) ≤ (m[0].toNat : Int) := by omega
                go_wp2
                go_ret2
                rw [HE.out]
                exact ⟨rfl, below_tr HB.out HBC.out⟩
              · have hbI : ¬ (n : Int) ≤ (m[0].toNat : Int) := by omega
                have hbS : (m.size : Int) < 33 := by omega
                go_wp2
                go_ret2
                rw [HE.out]
                exact ⟨rfl, below_tr HB.out HBC.out⟩
          · have hb1 : m[0].toNat < n := by omega
            have hb2 : 33 ≤ m.size := by omega
            have hbI : ¬ (n : Int) ≤ (m[0].toNat : Int) := by omega
            have hbS : ¬ (m.size : Int) < 33 := by omega
            have hownc := ownsRow_below hown (HBC.out.setCell (p := ⟨wr.heap.size, 2, none⟩) (Nat.le_refl _) (.string (m.extract 1 33)))
            clear hbad
            by_cases hlast : gk = 1
            · subst hlast
              have hdl : done.length = 100 := by omega
              go_wp2_with (at_builtin; refine wpList_append_lies _ rfl (.tmp 37) (.tmp 39) _ rfl w.heap.size 98 i0 _ 3 32 Try.underlying94 hi0 hz0 hz1 hz2 rfl (by omega) u6 done.length (recsCells done) rfl (hownc.alloc _) ⟨wc.heap.size, 0, none⟩ 1 1 [.bool false, .int .i64 (m[0].toNat : Int), .string (m.extract 1 33)] rfl rfl (World.news_of_block (cs := #[.bool false, .int .i64 (m[0].toNat : Int), .string (m.extract 1 33)]) (t := 98) (fr := (0, 0)) (heap_new_set _ _ _ _)) (by simp [Value.oneCell']) (by omega) (by unfold maxLen; omega) (by omega) (by simp; omega) (wc.heap.size + 1) (by simp) ?_; intro gg cap w2 hown2 hgrow hat hlt2)
              go_ret2
              refine ⟨?_, ?_⟩
              · have e : recsL p.data.toList n = none := by rw [HR.out, show 1 - 1 = 0 from rfl, recsF_over n m h0]; rfl
                rw [e]; rfl
              · exact grown_below ((below_tr HB.out (HBC.out.setCell (p := ⟨wr.heap.size, 2, none⟩) (Nat.le_refl _) _)).alloc (by have := HB.out.size; simp; omega) _) (hownc.alloc _) hgrow
            · have hdl : done.length < 100 := by omega
              go_wp2_with (at_builtin; refine wpList_append_lies _ rfl (.tmp 37) (.tmp 39) _ rfl w.heap.size 98 i0 _ 3 32 Try.underlying94 hi0 hz0 hz1 hz2 rfl (by omega) u6 done.length (recsCells done) rfl (hownc.alloc _) ⟨wc.heap.size, 0, none⟩ 1 1 [.bool false, .int .i64 (m[0].toNat : Int), .string (m.extract 1 33)] rfl rfl (World.news_of_block (cs := #[.bool false, .int .i64 (m[0].toNat : Int), .string (m.extract 1 33)]) (t := 98) (fr := (0, 0)) (heap_new_set _ _ _ _)) (by simp [Value.oneCell']) (by omega) (by unfold maxLen; omega) (by omega) (by simp; omega) (wc.heap.size + 1) (by simp) ?_; intro gg cap w2 hown2 hgrow hat hlt2)
              go_roundg (gk - 1)
              case measure => omega
              case rel =>
                have el : (done ++ [(⟨false, m[0].toNat, (m.data.toList.drop 1).take 32⟩ : RecM)]).length = done.length + 1 := by simp
                refine ⟨done ++ [⟨false, m[0].toNat, (m.data.toList.drop 1).take 32⟩], m.extract 33 m.size, rfl, by simp; omega, by rw [el]; omega, by omega, ?_, ?_, ?_⟩
                · obtain ⟨q, hq⟩ : ∃ q, gk = q + 2 := ⟨gk - 2, by omega⟩
                  rw [HR.out, hq, show q + 2 - 1 = q + 1 by omega, recsF_write n q m h0 h255 hb1 hb2, map_push, show q + 1 - 1 = q by omega, ext_drop]
                · rw [el, recs_push]; exact by rw [recCells, ← ext_1_33, str_of]; exact hown2
                · exact grown_below ((below_tr HB.out (HBC.out.setCell (p := ⟨wr.heap.size, 2, none⟩) (Nat.le_refl _) _)).alloc (by have := HB.out.size; simp; omega) _) (hownc.alloc _) hgrow
    · have hnil := is_nil m h0
      have hemp : (m.toList == ([] : List UInt8)) = true := by rw [ByteArray.toList_eq, hnil]; rfl
      have HN : Hid (m.data.toList = []) := hnil
      clear hnil
      go_wp2
      go_ret2
      have e : recsL p.data.toList n = some done := by
        rw [HR.out, HN.out]
        cases gk - 1 <;> simp [recsF]
      rw [e]
      exact ⟨⟨_, rfl, hown⟩, HB.out⟩
end Go.Proofs.Ytabpkohcimiceaa
