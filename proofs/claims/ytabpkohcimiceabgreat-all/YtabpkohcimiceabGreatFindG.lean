import Derived.Test.YtabpkohcimiceabGreatFindE
import Derived.WalkKit
import Derived.WalkSpells
import Derived.WalkLawsBesides
import Derived.OwnWalk
import Derived.Laws.ResultCell
import Derived.Deep.RegionWith
import Derived.Deep.DeepCutAuto
namespace Go.Proofs.YtabpkohcimiceabGreat
open Go.RowKit
set_option linter.unusedVariables false

theorem heldS_okD (d : List UInt8) (h : heldOk d) : StOk (heldS d) ∧ (heldS d).kept.length ≤ (heldS d).cap ∧ (heldS d).cap = (d.getD 4 0).toNat := by
  obtain ⟨hh, h6, h7, _⟩ := h
  have hl := sideOf_length d hh
  obtain ⟨_, h4, _⟩ := hh
  obtain ⟨_, _, h3⟩ := halfN_le _ h4
  refine ⟨seen_ok _ _ (by omega) h4 h7, ?_, rfl⟩
  show ((List.range ((sideOf d).getD 7 0).toNat).map (entAt (sideOf d))).length ≤ _
  rw [kept_len]; exact h7

set_option maxRecDepth 100000 in
set_option maxHeartbeats 1000000 in
theorem find_held (d : ByteArray) (k : Nat) (w : World) (hk : d.size = k * 32) (hk1 : 1 ≤ k) (hk2 : k ≤ 40) (h : ¬ d.data.toList.take 32 = List.replicate 32 0) (hyes : heldOk d.data.toList) :
    Calls Tryz.prog 64 #[.string d] w fun e w' => FindOut d.data.toList w.heap.size w' e ∧ Below w.heap.size w w' := by
  have hdl := len_list d
  have cz := fun w => nought_below ((k : Int) * 32) w (by omega)
  have hbq := str_beq2 d (List.replicate (k * 32) 0)
  have hz : ¬ d.data.toList = List.replicate (k * 32) 0 := by
    intro e
    apply h
    rw [e, List.take_replicate, Nat.min_eq_left (by omega)]
  rw [show ((k : Int) * 32).toNat = k * 32 by omega] at cz
  rw [decide_eq_false hz] at hbq
  have c0 : ∀ w, Calls Tryz.prog 105 #[.string d, .int .i64 0] w fun e w' => e = .returned (.string (str (d.data.toList.take 32))) ∧ w' = w := fun w => by
    have := sector_any d k 0 w (by omega) hk (by omega)
    rw [secL] at this
    exact this
  have cn := fun w => isNoughts_any (str (d.data.toList.take 32)) w (by rw [str_size, List.length_take]; unfold maxLen; omega)
  have ht32 : (d.data.toList.take 32).length = 32 := by rw [List.length_take]; omega
  rw [str_toList, str_size, ht32, decide_eq_false h] at cn
  have c5 : ∀ w, Calls Tryz.prog 106 #[.string d, .int .i64 5] w fun e w' => e = .returned (.int .i64 ((d.data.toList.getD 5 0).toNat : Int)) ∧ w' = w := fun w => tbyte_any d 5 w (by unfold maxLen; omega) (by omega)
  have cr := fun w => storeRead_any d k w hk hk1 hk2
  have hs0 : d.data.toList ≠ List.replicate d.data.toList.length 0 := by rw [hdl, hk]; exact hz
  generalize str (List.replicate (k * 32) (0 : UInt8)) = zz at *
  generalize str (d.data.toList.take 32) = z32 at *
  obtain ⟨o1, o2, o3⟩ := heldS_okD _ hyes
  have hlv : liveL d.data.toList ≤ 1 := hyes.1.2.2.1
  have hcap : (heldS d.data.toList).cap ≤ 30 := by rw [o3]; exact hyes.1.2.1
  have hrep : repL d.data.toList = packL (heldS d.data.toList) (liveL d.data.toList) (k * 32) := by rw [repL, if_neg h, if_pos hyes, hdl, hk]
  have hs : sortL d.data.toList = if d.data.toList = packL (heldS d.data.toList) (liveL d.data.toList) (k * 32) then 3 else 2 := by rw [sortL, if_neg hs0, if_neg h, if_pos hyes, hdl, hk]
  have hx5 : (d.data.toList.getD 5 0).toNat = liveL d.data.toList := rfl
  have cl := fun v w h => lay_any (heldS d.data.toList) v (liveL d.data.toList) k w o1 o2 hcap h hlv hk2
  have cs := fun w => sectors_any d k w (by unfold maxLen; omega) hk
  have cr2 : ∀ w, Calls Tryz.prog 107 #[.string d, .int .i64 (liveL d.data.toList : Int)] w fun e w' => (∃ (aa : Option Addr) (nn cc : Nat), e = .returned (.tuple #[.agg #[.int .i64 ((heldS d.data.toList).role : Int), .int .i64 ((heldS d.data.toList).step : Int), .int .i64 ((heldS d.data.toList).sent : Int), .int .i64 ((heldS d.data.toList).got : Int), .int .i64 ((heldS d.data.toList).prev : Int), .int .i64 ((heldS d.data.toList).skip : Int), .int .i64 ((heldS d.data.toList).cap : Int), .string (str (heldS d.data.toList).root), .string (str (heldS d.data.toList).out), .string (str (heldS d.data.toList).inn), .int .i64 ((heldS d.data.toList).secret : Int), .int .i64 ((heldS d.data.toList).peer : Int), .slice aa nn cc], .bool true]) ∧ w'.ownsRow w.heap.size 154 3 (.slice aa nn cc) (heldS d.data.toList).kept.length (entsCells (heldS d.data.toList).kept)) ∧ Below w.heap.size w w' := by
    intro w
    refine (cr w).mono ?_
    rintro e w' ⟨hq, hb⟩
    rcases hq with ⟨_, v, he, hv⟩ | ⟨hq, _⟩
    · obtain ⟨aa, nn, cc, hvv⟩ := owns_form hv
      subst hvv
      exact ⟨⟨aa, nn, cc, he, hv⟩, hb⟩
    · exact absurd hyes hq
  have hpq := str_beq2 d (packL (heldS d.data.toList) (liveL d.data.toList) (k * 32))
  rw [hx5] at c5
  have HFO : Hid (∀ w' a n c, w'.ownsRow w.heap.size 154 3 (.slice a n c) (heldS d.data.toList).kept.length (entsCells (heldS d.data.toList).kept) → FindOut d.data.toList w.heap.size w' (.returned (.agg (stateCells (if d.data.toList = packL (heldS d.data.toList) (liveL d.data.toList) (k * 32) then 3 else 2) (packL (heldS d.data.toList) (liveL d.data.toList) (k * 32)) (liveL d.data.toList) (heldS d.data.toList) a n c)))) := fun w' a n c he => ⟨heldS d.data.toList, liveL d.data.toList, a, n, c, by rw [hs, hrep], fun _ => ⟨rfl, rfl, he⟩⟩
  have HF2 : Hid (¬ d.data.toList = packL (heldS d.data.toList) (liveL d.data.toList) (k * 32) → ∀ w', FindOut d.data.toList w.heap.size w' (.returned (.agg (stateCells 2 (packL (heldS d.data.toList) (liveL d.data.toList) (k * 32)) 0 zeroS none 0 0)))) := fun hne w' => ⟨zeroS, 0, none, 0, 0, by rw [hs, hrep, if_neg hne], fun q => by rw [hs, if_neg hne] at q; omega⟩
  generalize hpk : packL (heldS d.data.toList) (liveL d.data.toList) (k * 32) = pl at *
  generalize heldS d.data.toList = ss at *
  generalize liveL d.data.toList = lv at *
  clear hs hs0 hz h hrep hyes cr ht32 hx5 o1 o2 o3 hpk hcap
  go_enter Tryz.func64, Tryz.ntmps64
  go_upto_region 10 with (first | (go_at_call 104; refine (cz _).mono ?_; rintro e w1 ⟨rfl, hb1⟩) | (go_at_call 105; with_reducible refine (c0 _).mono ?_; rintro e w' ⟨rfl, hw⟩; rw [hw]; clear hw w') | (go_at_call 58; with_reducible refine (cn _).mono ?_; rintro e w' ⟨rfl, hw⟩; rw [hw]; clear hw w') | (go_at_call 106; with_reducible refine (c5 _).mono ?_; rintro e w' ⟨rfl, hw⟩; rw [hw]; clear hw w') | (go_at_call 107; with_reducible refine (cr2 _).mono ?_; rintro e w2 ⟨⟨aa, nn, cc, rfl, hv⟩, hb2⟩))
  have hsz1 := hb1.size
  simp at hsz1
  have hsz2 := hb2.size
  have hA1 := (hb1.block w.heap.size (by simp)).trans (heap_alloc_new w _)
  have hA2 := (hb2.block w.heap.size (by omega)).trans hA1
  have hAx : (w2.alloc (Obj.cells #[.int .i64 (ss.role : Int), .int .i64 (ss.step : Int), .int .i64 (ss.sent : Int), .int .i64 (ss.got : Int), .int .i64 (ss.prev : Int), .int .i64 (ss.skip : Int), .int .i64 (ss.cap : Int), .string (str ss.root), .string (str ss.out), .string (str ss.inn), .int .i64 (ss.secret : Int), .int .i64 (ss.peer : Int), .slice aa nn cc] 90)).heap[w.heap.size]? = some (.cells #[.int .i64 0, .string ⟨#[]⟩, .int .i64 0, .int .i64 0, .int .i64 0, .int .i64 0, .int .i64 0, .int .i64 0, .int .i64 0, .int .i64 0, .string ⟨#[]⟩, .string ⟨#[]⟩, .string ⟨#[]⟩, .int .i64 0, .int .i64 0, .slice none 0 0] 98) := (Below.heap_alloc w2 _ _ (by omega)).trans hA2
  have hst : StAt (w2.alloc (Obj.cells #[.int .i64 (ss.role : Int), .int .i64 (ss.step : Int), .int .i64 (ss.sent : Int), .int .i64 (ss.got : Int), .int .i64 (ss.prev : Int), .int .i64 (ss.skip : Int), .int .i64 (ss.cap : Int), .string (str ss.root), .string (str ss.out), .string (str ss.inn), .int .i64 (ss.secret : Int), .int .i64 (ss.peer : Int), .slice aa nn cc] 90)) w2.heap.size ss (.slice aa nn cc) := StAt.madeD w2 ss (.slice aa nn cc)
  have hvx : EntsAt (w2.alloc (Obj.cells #[.int .i64 (ss.role : Int), .int .i64 (ss.step : Int), .int .i64 (ss.sent : Int), .int .i64 (ss.got : Int), .int .i64 (ss.prev : Int), .int .i64 (ss.skip : Int), .int .i64 (ss.cap : Int), .string (str ss.root), .string (str ss.out), .string (str ss.inn), .int .i64 (ss.secret : Int), .int .i64 (ss.peer : Int), .slice aa nn cc] 90)) (.slice aa nn cc) ss.kept := EntsAt.of_own (hv.alloc _)
  have hox : (w2.alloc (Obj.cells #[.int .i64 (ss.role : Int), .int .i64 (ss.step : Int), .int .i64 (ss.sent : Int), .int .i64 (ss.got : Int), .int .i64 (ss.prev : Int), .int .i64 (ss.skip : Int), .int .i64 (ss.cap : Int), .string (str ss.root), .string (str ss.out), .string (str ss.inn), .int .i64 (ss.secret : Int), .int .i64 (ss.peer : Int), .slice aa nn cc] 90)).ownsRow (w.heap.size + 1) 154 3 (.slice aa nn cc) ss.kept.length (entsCells ss.kept) := ownsRow_base (hv.alloc _) (by omega)
  have hwx : Below w.heap.size w (w2.alloc (Obj.cells #[.int .i64 (ss.role : Int), .int .i64 (ss.step : Int), .int .i64 (ss.sent : Int), .int .i64 (ss.got : Int), .int .i64 (ss.prev : Int), .int .i64 (ss.skip : Int), .int .i64 (ss.cap : Int), .string (str ss.root), .string (str ss.out), .string (str ss.inn), .int .i64 (ss.secret : Int), .int .i64 (ss.peer : Int), .slice aa nn cc] 90)) := (below_tr (below_tr ((Below.refl _ _).alloc (Nat.le_refl _) _) hb1) hb2).alloc (by omega) _
  have hBA : w.heap.size < w2.heap.size := by omega
  generalize (w2.alloc (Obj.cells #[.int .i64 (ss.role : Int), .int .i64 (ss.step : Int), .int .i64 (ss.sent : Int), .int .i64 (ss.got : Int), .int .i64 (ss.prev : Int), .int .i64 (ss.skip : Int), .int .i64 (ss.cap : Int), .string (str ss.root), .string (str ss.out), .string (str ss.inn), .int .i64 (ss.secret : Int), .int .i64 (ss.peer : Int), .slice aa nn cc] 90)) = wx at hAx hst hvx hwx hox ⊢
  generalize w2.heap.size = B at hst hBA ⊢
  have cl2 : ∀ w, EntsAt w (.slice aa nn cc) ss.kept → Calls Tryz.prog 100 #[.agg #[.int .i64 (ss.role : Int), .int .i64 (ss.step : Int), .int .i64 (ss.sent : Int), .int .i64 (ss.got : Int), .int .i64 (ss.prev : Int), .int .i64 (ss.skip : Int), .int .i64 (ss.cap : Int), .string (str ss.root), .string (str ss.out), .string (str ss.inn), .int .i64 (ss.secret : Int), .int .i64 (ss.peer : Int), .slice aa nn cc], .int .i64 (lv : Int), .int .i64 (k : Int)] w fun e w' => e = .returned (.string (str pl)) ∧ Below w.heap.size w w' := fun w h => cl (.slice aa nn cc) w h
  have HV : Hid (EntsAt wx (.slice aa nn cc) ss.kept) := hvx
  have HS : Hid (StAt wx B ss (.slice aa nn cc)) := hst
  have HO : Hid (wx.ownsRow (w.heap.size + 1) 154 3 (.slice aa nn cc) ss.kept.length (entsCells ss.kept)) := hox
  clear hox
  have HWX : Hid (Below w.heap.size w wx) := hwx
  have HAX : Hid (wx.heap[w.heap.size]? = some (.cells #[.int .i64 0, .string ⟨#[]⟩, .int .i64 0, .int .i64 0, .int .i64 0, .int .i64 0, .int .i64 0, .int .i64 0, .int .i64 0, .int .i64 0, .string ⟨#[]⟩, .string ⟨#[]⟩, .string ⟨#[]⟩, .int .i64 0, .int .i64 0, .slice none 0 0] 98)) := hAx
  clear hb1 hb2 hA1 hA2 hAx hv hvx hwx cz cr2 c0 cn c5 cl hsz1 hsz2
  obtain ⟨lt, k0, k1, k2, k3, k4, k5, k6, k7, k8, k9, k10, k11, k12⟩ := hst
  obtain ⟨pk, hpk2⟩ : ∃ pk, pk = str pl := ⟨_, rfl⟩
  rw [← hpk2] at hpq cl2
  have HPK : Hid (pk = str pl) := hpk2
  clear hpk2
  go_cut [7] (fun t wy => t = .string pk ∧ Below wx.heap.size wx wy)
  case first =>
    go_region_with (first | (go_at_call 56; with_reducible refine (cs _).mono ?_; rintro e w' ⟨rfl, hw⟩; rw [hw]; clear hw w') | (go_at_call 100; with_reducible refine (cl2 _ (by first | exact HV.out | exact HV.out.next (Below.refl _ _).drew)).mono ?_; rintro e wz ⟨rfl, hbz⟩))
    all_goals (go_wp2_with fail)
    all_goals go_meet
    all_goals exact ⟨rfl, ⟨hbz.os, hbz.tape, hbz.output, hbz.size, hbz.block⟩⟩
  case rest =>
    obtain ⟨rfl, hby⟩ := hcut
    have hS2 := HS.out.next hby
    have HV2 : Hid (EntsAt wc (.slice aa nn cc) ss.kept) := HV.out.next hby
    have HO2 : Hid (wc.ownsRow (w.heap.size + 1) 154 3 (.slice aa nn cc) ss.kept.length (entsCells ss.kept)) := ownsRow_below HO.out hby
    have HW2 : Hid (Below w.heap.size w wc) := below_tr HWX.out hby
    have hA := (hby.block w.heap.size (by omega)).trans HAX.out
    have a0 : wc.cell? ⟨w.heap.size, 0, none⟩ = some (.int .i64 0) := cell_of_row wc _ 0 _ _ _ hA
    have a1 : wc.cell? ⟨w.heap.size, 1, none⟩ = some (.string ⟨#[]⟩) := cell_of_row wc _ 1 _ _ _ hA
    have a2 : wc.cell? ⟨w.heap.size, 2, none⟩ = some (.int .i64 0) := cell_of_row wc _ 2 _ _ _ hA
    have a3 : wc.cell? ⟨w.heap.size, 3, none⟩ = some (.int .i64 0) := cell_of_row wc _ 3 _ _ _ hA
    have a4 : wc.cell? ⟨w.heap.size, 4, none⟩ = some (.int .i64 0) := cell_of_row wc _ 4 _ _ _ hA
    have a5 : wc.cell? ⟨w.heap.size, 5, none⟩ = some (.int .i64 0) := cell_of_row wc _ 5 _ _ _ hA
    have a6 : wc.cell? ⟨w.heap.size, 6, none⟩ = some (.int .i64 0) := cell_of_row wc _ 6 _ _ _ hA
    have a7 : wc.cell? ⟨w.heap.size, 7, none⟩ = some (.int .i64 0) := cell_of_row wc _ 7 _ _ _ hA
    have a8 : wc.cell? ⟨w.heap.size, 8, none⟩ = some (.int .i64 0) := cell_of_row wc _ 8 _ _ _ hA
    have a9 : wc.cell? ⟨w.heap.size, 9, none⟩ = some (.int .i64 0) := cell_of_row wc _ 9 _ _ _ hA
    have a10 : wc.cell? ⟨w.heap.size, 10, none⟩ = some (.string ⟨#[]⟩) := cell_of_row wc _ 10 _ _ _ hA
    have a11 : wc.cell? ⟨w.heap.size, 11, none⟩ = some (.string ⟨#[]⟩) := cell_of_row wc _ 11 _ _ _ hA
    have a12 : wc.cell? ⟨w.heap.size, 12, none⟩ = some (.string ⟨#[]⟩) := cell_of_row wc _ 12 _ _ _ hA
    have a13 : wc.cell? ⟨w.heap.size, 13, none⟩ = some (.int .i64 0) := cell_of_row wc _ 13 _ _ _ hA
    have a14 : wc.cell? ⟨w.heap.size, 14, none⟩ = some (.int .i64 0) := cell_of_row wc _ 14 _ _ _ hA
    have a15 : wc.cell? ⟨w.heap.size, 15, none⟩ = some (.slice none 0 0) := cell_of_row wc _ 15 _ _ _ hA
    have fA : ∀ j, wc.frozen? ⟨w.heap.size, j, none⟩ = false := fun j => frozen_of_row wc _ j _ _ hA
    clear hA hby k0 k1 k2 k3 k4 k5 k6 k7 k8 k9 k10 k11 k12 lt HS HV HWX HAX cl2 cs
    obtain ⟨lt, k0, k1, k2, k3, k4, k5, k6, k7, k8, k9, k10, k11, k12⟩ := hS2
    by_cases hd : d.data.toList = pl
    · rw [decide_eq_true hd] at hpq
      have HF : Hid (∀ w', w'.ownsRow w.heap.size 154 3 (.slice aa nn cc) ss.kept.length (entsCells ss.kept) → FindOut d.data.toList w.heap.size w' (.returned (.agg (stateCells 3 pl lv ss aa nn cc)))) := fun w' he => by
        have := HFO.out w' aa nn cc he
        rwa [if_pos hd] at this
      clear hd HFO HF2
      go_wp2
      (try simp only [Exit.inBlock, Exit.then])
      refine bodyPost_ret (v := .agg (stateCells 3 pl lv ss aa nn cc)) ?_ ?_ ?_
      · simp [results, go_sem, stateCells, HPK.out, a0, a1, a2, a3, a4, a5, a6, a7, a8, a9, a10, a11, a12, a13, a14, a15]
      · rfl
      · refine ⟨HF.out _ ?_, ?_⟩
        · refine ownsRow_base (base := w.heap.size + 1) ?_ (Nat.le_succ _)
          repeat (with_reducible refine ownsRow_setCell_below ?_ (by exact Nat.lt_succ_self _) _)
          exact HO2.out
        · repeat (with_reducible refine Below.setCell ?_ (by exact Nat.le_refl _) _)
          exact HW2.out
    · rw [decide_eq_false hd] at hpq
      have HF : Hid (∀ w', FindOut d.data.toList w.heap.size w' (.returned (.agg (stateCells 2 pl 0 zeroS none 0 0)))) := HF2.out hd
      clear hd HFO HF2
      go_wp2
      (try simp only [Exit.inBlock, Exit.then])
      refine bodyPost_ret (v := .agg (stateCells 2 pl 0 zeroS none 0 0)) ?_ ?_ ?_
      · simp [results, go_sem, stateCells, zeroS, HPK.out, a0, a1, a2, a3, a4, a5, a6, a7, a8, a9, a10, a11, a12, a13, a14, a15]
        try rfl
      · rfl
      · refine ⟨HF.out _, ?_⟩
        repeat (with_reducible refine Below.setCell ?_ (by exact Nat.le_refl _) _)
        exact HW2.out
end Go.Proofs.YtabpkohcimiceabGreat
