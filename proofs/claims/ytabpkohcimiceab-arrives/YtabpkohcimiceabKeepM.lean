import Derived.Test.YtabpkohcimiceabKeepA
import Derived.Test.YtabpkohcimiceabOpens
import Derived.Test.YtabpkohcimiceabCreates
import Derived.Test.YtabpkohcimiceabFindX
import Derived.RegionTactic
namespace Go.Proofs.Ytabpkohcimiceab
set_option maxRecDepth 100000
set_option maxHeartbeats 1000000
open Go.RowKit
set_option linter.unusedVariables false
theorem carried_any (d : ByteArray) (l : List RecM) (k : Nat) (w : World) (hd : d.size = k * 32) (hk : k ≤ 40) (hok : ∀ r ∈ l, r.ok k) (hl : l.length ≤ 100) :
    Calls Try.prog 25 #[.string d, .string (str (encL l))] w fun e w' => e = .returned (.tuple #[.string (str (leftL d.data.toList l l.length [])), .bool true]) ∧ Below w.heap.size w w' := by
  have c1 := fun w => counted_any d l k w hd hk hok hl
  have c2 : ∀ w, Calls Try.prog 41 #[.string d, .string (str (encL l)), .int .i64 l.length, .string ⟨#[]⟩] w fun e w' => e = .returned (.string (str (leftL d.data.toList l l.length []))) ∧ Below w.heap.size w w' := fun w => played_any d l l.length k ⟨#[]⟩ w hd hk hok hl (Nat.le_refl _) (by decide)
  generalize str (leftL d.data.toList l l.length []) = rr at *
  generalize str (encL l) = p at *
  have hn : ¬ (l.length : Int) < 0 := by omega
  go_enter Try.func25, Try.ntmps25
  go_wp2_with (first | (go_at_call 40; (with_reducible refine (c1 _).mono ?_); rintro e w' ⟨rfl, hw⟩; rw [hw]; clear hw w') | (go_at_call 41; (with_reducible refine (c2 _).mono ?_); rintro e w2 ⟨rfl, hb2⟩))
  go_ret2; exact ⟨rfl, hb2⟩
theorem keepHalf_any (n : Nat) (w : World) (h : n ≤ 1000) : Calls Try.prog 32 #[.int .i64 n] w fun e w' => e = .returned (.int .i64 (halfN n : Int)) ∧ w' = w := by
  go_enter Try.func32, Try.ntmps32
  go_wp2; go_ret
  refine ⟨?_, rfl⟩
  show Ending.returned (Value.int _ _) = _
  congr 2
def blankK (cap : Nat) (room : Int) : Nat := 1 + 2 * halfN cap + (pickN room 4).toNat
theorem keepBlank_any (cap : Nat) (room : Int) (w : World) (hc : cap ≤ 30) (hr : (-9223372036854775808 ≤ room ∧ room ≤ 9223372036854775807)) :
    Calls Try.prog 50 #[.int .i64 cap, .int .i64 room] w fun e w' => e = .returned (.string (str (List.replicate (blankK cap room * 32) 0))) ∧ w' = w := by
  have hh := (halfN_le cap hc).1
  obtain ⟨p0, p1⟩ := pickN_bd room 4 (by omega)
  have c1 := fun w => keepHalf_any cap w (by omega)
  have c2 := fun w => pick_any room 4 w hr.1 hr.2 (by omega) (by omega)
  obtain ⟨m, hm⟩ := Int.eq_ofNat_of_zero_le p0
  have HK : Hid (blankK cap room * 32 = ((1 + 2 * (halfN cap : Int) + (m : Int)) * 32).toNat) := by
    show _ = _
    rw [blankK, hm]; omega
  rw [hm] at c2 p1
  have c3 := fun w => noughts_any ((1 + 2 * (halfN cap : Int) + (m : Int)) * 32) w (by omega) (by omega)
  rw [HK.out]
  generalize halfN cap = hf at *
  clear hm p0
  go_enter Try.func50, Try.ntmps50
  go_wp2_with (first | (go_at_call 32; (with_reducible refine (c1 _).mono ?_); rintro e w' ⟨rfl, hw⟩; rw [hw]; clear hw w') | (go_at_call 12; (with_reducible refine (c2 _).mono ?_); rintro e w' ⟨rfl, hw⟩; rw [hw]; clear hw w') | (go_at_call 33; (with_reducible refine (c3 _).mono ?_); rintro e w' ⟨rfl, hw⟩; rw [hw]; clear hw w'))
  go_ret; exact ⟨rfl, rfl⟩
theorem results_cct {fn : Func} {p q u : Tmp} {ty ty' : TypeId} (h : fn.results = #[.cell p ty, .cell q ty', .tmp u]) (tmps : Array Value) (P : Program) (w : World) :
    (results fn tmps).run P w =
      ((asAddr (tmps.getD p undef)).run P w).andThen fun a w₁ => ((loadVar ty a).run P w₁).andThen fun v w₂ => ((asAddr (tmps.getD q undef)).run P w₂).andThen fun a' w₃ => ((loadVar ty' a').run P w₃).andThen fun v' w₄ => .ok (.tuple #[v, v', tmps.getD u undef]) w₄ := by
  simp only [results, h]
  simp [Sem.run_bind, Result.andThen]
theorem configs_any (u0 u1 u2 u3 u4 u5 u6 : Int) (u7 : ByteArray) (w : World) (h0 : (-9223372036854775808 ≤ u0 ∧ u0 ≤ 9223372036854775807)) (h1 : (-9223372036854775808 ≤ u1 ∧ u1 ≤ 9223372036854775807)) (h2 : (-9223372036854775808 ≤ u2 ∧ u2 ≤ 9223372036854775807)) (h3 : (-9223372036854775808 ≤ u3 ∧ u3 ≤ 9223372036854775807)) (h5 : (-9223372036854775808 ≤ u5 ∧ u5 ≤ 9223372036854775807)) :
    Calls Try.prog 21 #[.agg #[.int .i64 u0, .int .i64 u1, .int .i64 u2, .int .i64 u3, .int .i64 u4, .int .i64 u5, .int .i64 u6, .string u7]] w fun e w' => e = .returned (.tuple #[.agg #[.int .i64 0, .int .i64 (pickN u0 13), .int .i64 (pickN u1 31), .int .i64 (shOut (secN u5) 7)], .agg #[.int .i64 1, .int .i64 (pickN u2 13), .int .i64 (pickN u3 31), .int .i64 0], .bool true]) ∧ Below w.heap.size w w' := by
  have c0 := fun w => secretOf_any u5 w h5.1 h5.2
  have c1 := fun w => pawlPublic_any (secN u5) w
  have hsh : shErr (secN u5) 7 = 0 := by rw [shErr, if_pos ⟨secN_sec u5, by unfold Pub; omega⟩]
  rw [hsh] at c1
  have p0 := fun w => pick_any u0 13 w h0.1 h0.2 (by omega) (by omega)
  have p1 := fun w => pick_any u1 31 w h1.1 h1.2 (by omega) (by omega)
  have p2 := fun w => pick_any u2 13 w h2.1 h2.2 (by omega) (by omega)
  have p3 := fun w => pick_any u3 31 w h3.1 h3.2 (by omega) (by omega)
  generalize shOut (secN u5) 7 = y at *
  generalize secN u5 = sc at *
  generalize pickN u0 13 = x0 at *
  generalize pickN u1 31 = x1 at *
  generalize pickN u2 13 = x2 at *
  generalize pickN u3 31 = x3 at *
  clear hsh h0 h1 h2 h3 h5
  go_enter Try.func21, Try.ntmps21
  go_upto_region 1 with fail
  have hB : (((w.alloc (.cells #[.int .i64 u0, .int .i64 u1, .int .i64 u2, .int .i64 u3, .int .i64 u4, .int .i64 u5, .int .i64 u6, .string u7] 23)).alloc (.cells #[.int .i64 0, .int .i64 0, .int .i64 0, .int .i64 0] 57)).alloc (.cells #[.int .i64 0, .int .i64 0, .int .i64 0, .int .i64 0] 57)).heap[w.heap.size]? = some (.cells #[.int .i64 u0, .int .i64 u1, .int .i64 u2, .int .i64 u3, .int .i64 u4, .int .i64 u5, .int .i64 u6, .string u7] 23) := ((Below.heap_alloc _ _ _ (by simp; omega)).trans (Below.heap_alloc _ _ _ (by simp))).trans (heap_alloc_new w _)
  have hR1 : (((w.alloc (.cells #[.int .i64 u0, .int .i64 u1, .int .i64 u2, .int .i64 u3, .int .i64 u4, .int .i64 u5, .int .i64 u6, .string u7] 23)).alloc (.cells #[.int .i64 0, .int .i64 0, .int .i64 0, .int .i64 0] 57)).alloc (.cells #[.int .i64 0, .int .i64 0, .int .i64 0, .int .i64 0] 57)).heap[w.heap.size + 1]? = some (.cells #[.int .i64 0, .int .i64 0, .int .i64 0, .int .i64 0] 57) := by
    refine (Below.heap_alloc _ _ _ (by simp)).trans ?_
    have := heap_alloc_new (w.alloc (.cells #[.int .i64 u0, .int .i64 u1, .int .i64 u2, .int .i64 u3, .int .i64 u4, .int .i64 u5, .int .i64 u6, .string u7] 23)) (.cells #[.int .i64 0, .int .i64 0, .int .i64 0, .int .i64 0] 57)
    have e : (w.alloc (.cells #[.int .i64 u0, .int .i64 u1, .int .i64 u2, .int .i64 u3, .int .i64 u4, .int .i64 u5, .int .i64 u6, .string u7] 23)).heap.size = w.heap.size + 1 := by simp
    rw [e] at this
    exact this
  have hR2 : (((w.alloc (.cells #[.int .i64 u0, .int .i64 u1, .int .i64 u2, .int .i64 u3, .int .i64 u4, .int .i64 u5, .int .i64 u6, .string u7] 23)).alloc (.cells #[.int .i64 0, .int .i64 0, .int .i64 0, .int .i64 0] 57)).alloc (.cells #[.int .i64 0, .int .i64 0, .int .i64 0, .int .i64 0] 57)).heap[w.heap.size + 1 + 1]? = some (.cells #[.int .i64 0, .int .i64 0, .int .i64 0, .int .i64 0] 57) := by
    have := heap_alloc_new ((w.alloc (.cells #[.int .i64 u0, .int .i64 u1, .int .i64 u2, .int .i64 u3, .int .i64 u4, .int .i64 u5, .int .i64 u6, .string u7] 23)).alloc (.cells #[.int .i64 0, .int .i64 0, .int .i64 0, .int .i64 0] 57)) (.cells #[.int .i64 0, .int .i64 0, .int .i64 0, .int .i64 0] 57)
    have e : ((w.alloc (.cells #[.int .i64 u0, .int .i64 u1, .int .i64 u2, .int .i64 u3, .int .i64 u4, .int .i64 u5, .int .i64 u6, .string u7] 23)).alloc (.cells #[.int .i64 0, .int .i64 0, .int .i64 0, .int .i64 0] 57)).heap.size = w.heap.size + 1 + 1 := by simp
    rw [e] at this
    exact this
  have hW : Below w.heap.size w (((w.alloc (.cells #[.int .i64 u0, .int .i64 u1, .int .i64 u2, .int .i64 u3, .int .i64 u4, .int .i64 u5, .int .i64 u6, .string u7] 23)).alloc (.cells #[.int .i64 0, .int .i64 0, .int .i64 0, .int .i64 0] 57)).alloc (.cells #[.int .i64 0, .int .i64 0, .int .i64 0, .int .i64 0] 57)) := (((Below.refl _ _).alloc (Nat.le_refl _) _).alloc (by simp) _).alloc (by simp; omega) _
  have hlt : (((w.alloc (.cells #[.int .i64 u0, .int .i64 u1, .int .i64 u2, .int .i64 u3, .int .i64 u4, .int .i64 u5, .int .i64 u6, .string u7] 23)).alloc (.cells #[.int .i64 0, .int .i64 0, .int .i64 0, .int .i64 0] 57)).alloc (.cells #[.int .i64 0, .int .i64 0, .int .i64 0, .int .i64 0] 57)).heap.size = w.heap.size + 1 + 1 + 1 := by simp
  generalize (((w.alloc (.cells #[.int .i64 u0, .int .i64 u1, .int .i64 u2, .int .i64 u3, .int .i64 u4, .int .i64 u5, .int .i64 u6, .string u7] 23)).alloc (.cells #[.int .i64 0, .int .i64 0, .int .i64 0, .int .i64 0] 57)).alloc (.cells #[.int .i64 0, .int .i64 0, .int .i64 0, .int .i64 0] 57)) = wb at hB hR1 hR2 hW hlt ⊢
  have HW := hid hW; have HR1 := hid hR1; have HR2 := hid hR2; have k0 : wb.cell? ⟨w.heap.size, 0, none⟩ = some (.int .i64 u0) := cell_of_row wb _ 0 _ _ _ hB; have k1 : wb.cell? ⟨w.heap.size, 1, none⟩ = some (.int .i64 u1) := cell_of_row wb _ 1 _ _ _ hB; have k2 : wb.cell? ⟨w.heap.size, 2, none⟩ = some (.int .i64 u2) := cell_of_row wb _ 2 _ _ _ hB; have k3 : wb.cell? ⟨w.heap.size, 3, none⟩ = some (.int .i64 u3) := cell_of_row wb _ 3 _ _ _ hB; have k5 : wb.cell? ⟨w.heap.size, 5, none⟩ = some (.int .i64 u5) := cell_of_row wb _ 5 _ _ _ hB; clear hB hR1 hR2 hW
  go_upto_region 2 with (first | (go_at_call 10; (with_reducible refine (c0 _).mono ?_); rintro e w' ⟨rfl, hw⟩; rw [hw]; clear hw w') | (go_at_call 35; (with_reducible refine (c1 _).mono ?_); rintro e w' ⟨rfl, hw⟩; rw [hw]; clear hw w'))
  go_cut [7] (fun x7 wx => x7 = .pointer (some ⟨w.heap.size + 1 + 1 + 1, 0, none⟩) ∧ wx.heap.size = w.heap.size + 1 + 1 + 1 + 1 ∧ Below wb.heap.size wb wx ∧ wx.heap[w.heap.size + 1 + 1 + 1]? = some (.cells #[.int .i64 0, .int .i64 x0, .int .i64 x1, .int .i64 y] 57))
  case first =>
    go_region_held3 (fun w' => w'.cell? ⟨w.heap.size, 0, none⟩ = some (.int .i64 u0) ∧ w'.cell? ⟨w.heap.size, 1, none⟩ = some (.int .i64 u1)) (first | (simp [k0, k1]; done) | (simp (maxDischargeDepth := 40) [World.cell?_alloc_some, k0, k1]; done)) (first | (go_at_call 12; (with_reducible refine (p0 _).mono ?_); rintro e w' ⟨rfl, hw⟩; rw [hw]; clear hw w') | (go_at_call 12; (with_reducible refine (p1 _).mono ?_); rintro e w' ⟨rfl, hw⟩; rw [hw]; clear hw w'))
    all_goals (go_wp2_with fail)
    all_goals go_meet
    all_goals (refine ⟨rfl, by simp [hlt], ?_, ?_⟩)
    all_goals first
      | ((repeat (first | exact Below.refl _ _ | apply Below.drew | (refine Below.alloc ?_ (by first | exact Nat.le_refl _ | (simp; done)) _))); done)
      | (have := heap_alloc_new wb (.cells #[.int .i64 0, .int .i64 x0, .int .i64 x1, .int .i64 y] 57); rw [hlt] at this; exact this)
  case rest =>
    obtain ⟨rfl, hsz, hb1, hA⟩ := hcut
    have m2 := (hb1.cell (p := ⟨w.heap.size, 2, none⟩) (by show w.heap.size < _; omega)).trans k2
    have m3 := (hb1.cell (p := ⟨w.heap.size, 3, none⟩) (by show w.heap.size < _; omega)).trans k3
    have HR1c := hid ((hb1.block (w.heap.size + 1) (by omega)).trans HR1.out)
    have HR2c := hid ((hb1.block (w.heap.size + 1 + 1) (by omega)).trans HR2.out)
    have HAc := hid hA; have HWc : Hid (Below w.heap.size w wc) := below_tr HW.out hb1
    obtain ⟨wd, rfl⟩ : ∃ wd : World, wd = wc := ⟨_, rfl⟩
    clear hb1 hA HR1 HR2 HW k0 k1 k2 k3 k5 p0 p1 c0 c1 hlt
    go_upto_region 3 with fail
    go_cut [8] (fun x8 wx => x8 = .pointer (some ⟨w.heap.size + 1 + 1 + 1 + 1, 0, none⟩) ∧ wx.heap.size = w.heap.size + 1 + 1 + 1 + 1 + 1 ∧ Below wd.heap.size wd wx ∧ wx.heap[w.heap.size + 1 + 1 + 1 + 1]? = some (.cells #[.int .i64 1, .int .i64 x2, .int .i64 x3, .int .i64 0] 57))
    case first =>
      go_region_held3 (fun w' => w'.cell? ⟨w.heap.size, 2, none⟩ = some (.int .i64 u2) ∧ w'.cell? ⟨w.heap.size, 3, none⟩ = some (.int .i64 u3)) (first | (simp [m2, m3]; done) | (simp (maxDischargeDepth := 40) [World.cell?_alloc_some, m2, m3]; done)) (first | (go_at_call 12; (with_reducible refine (p2 _).mono ?_); rintro e w' ⟨rfl, hw⟩; rw [hw]; clear hw w') | (go_at_call 12; (with_reducible refine (p3 _).mono ?_); rintro e w' ⟨rfl, hw⟩; rw [hw]; clear hw w'))
      all_goals (go_wp2_with fail)
      all_goals go_meet
      all_goals (refine ⟨rfl, by simp [hsz], ?_, ?_⟩)
      all_goals first
        | ((repeat (first | exact Below.refl _ _ | apply Below.drew | (refine Below.alloc ?_ (by first | exact Nat.le_refl _ | (simp; done)) _))); done)
        | (have := heap_alloc_new wd (.cells #[.int .i64 1, .int .i64 x2, .int .i64 x3, .int .i64 0] 57); rw [hsz] at this; exact this)
    case rest =>
      obtain ⟨rfl, hsz2, hb2, hB2⟩ := hcut
      have hR1 := (hb2.block (w.heap.size + 1) (by omega)).trans HR1c.out
      have hR2 := (hb2.block (w.heap.size + 1 + 1) (by omega)).trans HR2c.out
      have hA2 := (hb2.block (w.heap.size + 1 + 1 + 1) (by omega)).trans HAc.out
      have HW2 : Hid (Below w.heap.size w wc) := below_tr HWc.out hb2; have a0 : wc.cell? ⟨w.heap.size + 1, 0, none⟩ = some (.int .i64 0) := cell_of_row wc _ 0 _ _ _ hR1; have a1 : wc.cell? ⟨w.heap.size + 1, 1, none⟩ = some (.int .i64 0) := cell_of_row wc _ 1 _ _ _ hR1; have a2 : wc.cell? ⟨w.heap.size + 1, 2, none⟩ = some (.int .i64 0) := cell_of_row wc _ 2 _ _ _ hR1; have a3 : wc.cell? ⟨w.heap.size + 1, 3, none⟩ = some (.int .i64 0) := cell_of_row wc _ 3 _ _ _ hR1; have b0 : wc.cell? ⟨w.heap.size + 1 + 1, 0, none⟩ = some (.int .i64 0) := cell_of_row wc _ 0 _ _ _ hR2; have b1 : wc.cell? ⟨w.heap.size + 1 + 1, 1, none⟩ = some (.int .i64 0) := cell_of_row wc _ 1 _ _ _ hR2; have b2 : wc.cell? ⟨w.heap.size + 1 + 1, 2, none⟩ = some (.int .i64 0) := cell_of_row wc _ 2 _ _ _ hR2; have b3 : wc.cell? ⟨w.heap.size + 1 + 1, 3, none⟩ = some (.int .i64 0) := cell_of_row wc _ 3 _ _ _ hR2; have c0 : wc.cell? ⟨w.heap.size + 1 + 1 + 1, 0, none⟩ = some (.int .i64 0) := cell_of_row wc _ 0 _ _ _ hA2; have c1 : wc.cell? ⟨w.heap.size + 1 + 1 + 1, 1, none⟩ = some (.int .i64 x0) := cell_of_row wc _ 1 _ _ _ hA2; have c2 : wc.cell? ⟨w.heap.size + 1 + 1 + 1, 2, none⟩ = some (.int .i64 x1) := cell_of_row wc _ 2 _ _ _ hA2; have c3 : wc.cell? ⟨w.heap.size + 1 + 1 + 1, 3, none⟩ = some (.int .i64 y) := cell_of_row wc _ 3 _ _ _ hA2; have d0 : wc.cell? ⟨w.heap.size + 1 + 1 + 1 + 1, 0, none⟩ = some (.int .i64 1) := cell_of_row wc _ 0 _ _ _ hB2; have d1 : wc.cell? ⟨w.heap.size + 1 + 1 + 1 + 1, 1, none⟩ = some (.int .i64 x2) := cell_of_row wc _ 1 _ _ _ hB2; have d2 : wc.cell? ⟨w.heap.size + 1 + 1 + 1 + 1, 2, none⟩ = some (.int .i64 x3) := cell_of_row wc _ 2 _ _ _ hB2; have d3 : wc.cell? ⟨w.heap.size + 1 + 1 + 1 + 1, 3, none⟩ = some (.int .i64 0) := cell_of_row wc _ 3 _ _ _ hB2
      have fA : ∀ j, wc.frozen? ⟨w.heap.size + 1, j, none⟩ = false := fun j => frozen_of_row wc _ j _ _ hR1
      have fB : ∀ j, wc.frozen? ⟨w.heap.size + 1 + 1, j, none⟩ = false := fun j => frozen_of_row wc _ j _ _ hR2
      clear hR1 hR2 hA2 hB2 hb2 HR1c HR2c HAc HWc m2 m3 p2 p3
      go_upto_region 4 with fail
      go_region
      all_goals go_wp2
      all_goals (try simp only [Exit.inBlock, Exit.then])
      all_goals (refine bodyPost_ret (v := .tuple #[.agg #[.int .i64 0, .int .i64 x0, .int .i64 x1, .int .i64 y], .agg #[.int .i64 1, .int .i64 x2, .int .i64 x3, .int .i64 0], .bool true]) ?_ ?_ ?_)
      all_goals first
        | rfl
        | (rw [results_cct (fn := Try.f21) rfl]; simp [go_sem, a0, a1, a2, a3, b0, b1, b2, b3])
        | (refine ⟨rfl, ?_⟩; (repeat (first | (with_reducible refine Below.setCell ?_ (by show w.heap.size ≤ w.heap.size + 1; omega) _) | (with_reducible refine Below.setCell ?_ (by show w.heap.size ≤ w.heap.size + 1 + 1; omega) _) | (with_reducible refine Below.drew ?_))); exact HW2.out)
theorem made_facts (u6 : Int) (u7 : ByteArray) (role skip peer draw : Int) (cp : Nat) (hE : creErr (List.replicate (blankK cp u6 * 32) (0 : UInt8)) role skip (cp : Int) peer (sizedL u7.data.toList 8) (secN draw) = 0) :
    ∃ k l, blankK cp u6 = k ∧ 1 ≤ k ∧ k ≤ 40 ∧ (crePlan (List.replicate (blankK cp u6 * 32) (0 : UInt8)) role skip (cp : Int) peer (sizedL u7.data.toList 8) (secN draw)) = encL l ∧ (∀ r ∈ l, r.ok k) ∧ l.length ≤ 100 ∧ (creTo (List.replicate (blankK cp u6 * 32) (0 : UInt8)) role skip (cp : Int) peer (sizedL u7.data.toList 8) (secN draw)) ≠ (List.replicate (blankK cp u6 * 32) (0 : UInt8)) ∧ (creTo (List.replicate (blankK cp u6 * 32) (0 : UInt8)) role skip (cp : Int) peer (sizedL u7.data.toList 8) (secN draw)).length = k * 32 ∧ sortL (creTo (List.replicate (blankK cp u6 * 32) (0 : UInt8)) role skip (cp : Int) peer (sizedL u7.data.toList 8) (secN draw)) = 3 ∧
      leftL (List.replicate (blankK cp u6 * 32) (0 : UInt8)) l l.length [] = (creTo (List.replicate (blankK cp u6 * 32) (0 : UInt8)) role skip (cp : Int) peer (sizedL u7.data.toList 8) (secN draw)) ∧ ∀ m kq, m ≤ l.length → repairR (leftL (List.replicate (blankK cp u6 * 32) (0 : UInt8)) l m kq) = ((List.replicate (blankK cp u6 * 32) (0 : UInt8)), 0) ∨ repairR (leftL (List.replicate (blankK cp u6 * 32) (0 : UInt8)) l m kq) = ((creTo (List.replicate (blankK cp u6 * 32) (0 : UInt8)) role skip (cp : Int) peer (sizedL u7.data.toList 8) (secN draw)), 0) := by
  have hE' := hE
  obtain ⟨k, s, hD, hk, hk1, hk2, hz, so, skept, scap, sneed, slaw, hto, hplan⟩ := cre_ok (str (List.replicate (blankK cp u6 * 32) (0 : UInt8))) role skip (cp : Int) peer (str (sizedL u7.data.toList 8)) (secN draw) (by rw [str_toList, str_toList]; exact hE)
  rw [str_toList] at hD hz hto hplan
  rw [str_toList] at hto hplan
  rw [str_size, List.length_replicate] at hk
  obtain ⟨r1, r2, r3⟩ := cre_safe (packL s 0 (k * 32)) (List.replicate (blankK cp u6 * 32) (0 : UInt8)) s k hz hk1 hk2 so skept scap sneed slaw rfl; obtain ⟨q1, q2⟩ := recsF_ok _ _ _ _ r1
  have hkc : s.kept.length ≤ s.cap := by rw [skept]; exact Nat.zero_le _
  obtain ⟨g1, g2, g3⟩ := pack_held 0 k so hkc scap (by omega) sneed slaw
  obtain ⟨p1, _⟩ := pack_parts 0 k so hkc scap (by omega) sneed
  have hpl := packL_length s 0 k so hkc (by omega) sneed
  have hkk : blankK cp u6 = k := by omega
  have hne : packL s 0 (k * 32) ≠ (List.replicate (blankK cp u6 * 32) (0 : UInt8)) := by
    intro e
    apply top_not s.cap 0
    rw [← p1, e, List.take_replicate, Nat.min_eq_left (by omega)]
  refine ⟨k, twoR (List.replicate (blankK cp u6 * 32) (0 : UInt8)) (packL s 0 (k * 32)) k, hkk, hk1, hk2, hplan, q2, q1, by rw [hto]; exact hne, by rw [hto]; exact hpl, ?_, by rw [hto]; exact r2 [], by rw [hto]; exact r3⟩
  rw [hto]
  have hs3 : sortL (packL s 0 (k * 32)) = 3 := by
    rw [sortL, if_neg, if_neg, if_pos g1, if_pos (by rw [g2, g3, hpl])]
    · rw [p1]; exact top_not _ _
    · intro e
      apply top_not s.cap 0
      rw [← p1, e, List.take_replicate, Nat.min_eq_left (by rw [hpl]; omega)]
  exact hs3
theorem made_any (u0 u1 u2 u3 u4 u5 u6 : Int) (u7 : ByteArray) (role skip peer draw : Int) (cp : Nat) (w : World) (h6 : (-9223372036854775808 ≤ u6 ∧ u6 ≤ 9223372036854775807)) (hd : (-9223372036854775808 ≤ draw ∧ draw ≤ 9223372036854775807)) (h7 : u7.size ≤ maxLen) (hcp : cp ≤ 30) (hE : creErr (List.replicate (blankK cp u6 * 32) (0 : UInt8)) role skip (cp : Int) peer (sizedL u7.data.toList 8) (secN draw) = 0) :
    Calls Try.prog 36 #[.agg #[.int .i64 u0, .int .i64 u1, .int .i64 u2, .int .i64 u3, .int .i64 u4, .int .i64 u5, .int .i64 u6, .string u7], .agg #[.int .i64 role, .int .i64 skip, .int .i64 cp, .int .i64 peer], .int .i64 draw] w fun e w' => e = .returned (.tuple #[.string (str (creTo (List.replicate (blankK cp u6 * 32) (0 : UInt8)) role skip (cp : Int) peer (sizedL u7.data.toList 8) (secN draw))), .bool true]) ∧ Below w.heap.size w w' := by
  obtain ⟨k, l, hkk, hk1, hk2, hpl, lok, llen, hne, htl, _, hend, _⟩ := made_facts u6 u7 role skip peer draw cp hE
  have c1 := fun w => keepBlank_any cp u6 w hcp h6
  have c2 := fun w => sized_any u7 8 w (by omega) (by omega) h7
  have c3 := fun w => secretOf_any draw w hd.1 hd.2
  have c4 := fun w => pawlCreate_any (str (List.replicate (blankK cp u6 * 32) (0 : UInt8))) role skip (cp : Int) peer (str (sizedL u7.data.toList 8)) (secN draw) w (by rw [str_size, List.length_replicate]; unfold maxLen; omega) (by rw [str_size, sizedL_length]; unfold maxLen; omega)
  rw [str_toList, str_toList, hE, hpl] at c4
  rw [show (8 : Int).toNat = 8 from rfl] at c2
  have c5 := fun w => carried_any (str (List.replicate (blankK cp u6 * 32) (0 : UInt8))) l k w (by rw [str_size, List.length_replicate, hkk]) hk2 lok llen
  rw [str_toList, hend] at c5
  have hbq : ((str (creTo (List.replicate (blankK cp u6 * 32) (0 : UInt8)) role skip (cp : Int) peer (sizedL u7.data.toList 8) (secN draw))).toList == (str (List.replicate (blankK cp u6 * 32) (0 : UInt8))).toList) = false := by
    rw [ByteArray.toList_eq, ByteArray.toList_eq, str_toList, str_toList, beq_eq_false_iff_ne]; exact hne
  unfold cfgCells at c4
  generalize str (creTo (List.replicate (blankK cp u6 * 32) (0 : UInt8)) role skip (cp : Int) peer (sizedL u7.data.toList 8) (secN draw)) = tt at *
  generalize str (List.replicate (blankK cp u6 * 32) (0 : UInt8)) = dz at *
  generalize str (sizedL u7.data.toList 8) = sc at *
  generalize str (encL l) = pl at *
  generalize secN draw = dn at *
  clear hE hpl lok llen hne htl hend hkk hk1 hk2 h6 hd h7
  go_enter Try.func36, Try.ntmps36
  go_upto_region 1 with fail
  have hB : ((w.alloc (.cells #[.int .i64 u0, .int .i64 u1, .int .i64 u2, .int .i64 u3, .int .i64 u4, .int .i64 u5, .int .i64 u6, .string u7] 23)).alloc (.cells #[.int .i64 role, .int .i64 skip, .int .i64 cp, .int .i64 peer] 57)).heap[w.heap.size]? = some (.cells #[.int .i64 u0, .int .i64 u1, .int .i64 u2, .int .i64 u3, .int .i64 u4, .int .i64 u5, .int .i64 u6, .string u7] 23) := (Below.heap_alloc _ _ _ (by simp)).trans (heap_alloc_new w _)
  have hC : ((w.alloc (.cells #[.int .i64 u0, .int .i64 u1, .int .i64 u2, .int .i64 u3, .int .i64 u4, .int .i64 u5, .int .i64 u6, .string u7] 23)).alloc (.cells #[.int .i64 role, .int .i64 skip, .int .i64 cp, .int .i64 peer] 57)).heap[w.heap.size + 1]? = some (.cells #[.int .i64 role, .int .i64 skip, .int .i64 cp, .int .i64 peer] 57) := by
    have := heap_alloc_new (w.alloc (.cells #[.int .i64 u0, .int .i64 u1, .int .i64 u2, .int .i64 u3, .int .i64 u4, .int .i64 u5, .int .i64 u6, .string u7] 23)) (.cells #[.int .i64 role, .int .i64 skip, .int .i64 cp, .int .i64 peer] 57)
    have e : (w.alloc (.cells #[.int .i64 u0, .int .i64 u1, .int .i64 u2, .int .i64 u3, .int .i64 u4, .int .i64 u5, .int .i64 u6, .string u7] 23)).heap.size = w.heap.size + 1 := by simp
    rw [e] at this
    exact this
  have hW : Below w.heap.size w ((w.alloc (.cells #[.int .i64 u0, .int .i64 u1, .int .i64 u2, .int .i64 u3, .int .i64 u4, .int .i64 u5, .int .i64 u6, .string u7] 23)).alloc (.cells #[.int .i64 role, .int .i64 skip, .int .i64 cp, .int .i64 peer] 57)) := ((Below.refl _ _).alloc (Nat.le_refl _) _).alloc (by simp) _
  have hlt : w.heap.size + 1 < ((w.alloc (.cells #[.int .i64 u0, .int .i64 u1, .int .i64 u2, .int .i64 u3, .int .i64 u4, .int .i64 u5, .int .i64 u6, .string u7] 23)).alloc (.cells #[.int .i64 role, .int .i64 skip, .int .i64 cp, .int .i64 peer] 57)).heap.size := by simp
  generalize ((w.alloc (.cells #[.int .i64 u0, .int .i64 u1, .int .i64 u2, .int .i64 u3, .int .i64 u4, .int .i64 u5, .int .i64 u6, .string u7] 23)).alloc (.cells #[.int .i64 role, .int .i64 skip, .int .i64 cp, .int .i64 peer] 57)) = wb at hB hC hW hlt ⊢
  have HW := hid hW; have k6 : wb.cell? ⟨w.heap.size, 6, none⟩ = some (.int .i64 u6) := cell_of_row wb _ 6 _ _ _ hB; have k7 : wb.cell? ⟨w.heap.size, 7, none⟩ = some (.string u7) := cell_of_row wb _ 7 _ _ _ hB; have n0 : wb.cell? ⟨w.heap.size + 1, 0, none⟩ = some (.int .i64 role) := cell_of_row wb _ 0 _ _ _ hC; have n1 : wb.cell? ⟨w.heap.size + 1, 1, none⟩ = some (.int .i64 skip) := cell_of_row wb _ 1 _ _ _ hC; have n2 : wb.cell? ⟨w.heap.size + 1, 2, none⟩ = some (.int .i64 cp) := cell_of_row wb _ 2 _ _ _ hC; have n3 : wb.cell? ⟨w.heap.size + 1, 3, none⟩ = some (.int .i64 peer) := cell_of_row wb _ 3 _ _ _ hC; clear hB hC hW
  go_upto_region 2 with (first | (go_at_call 50; (with_reducible refine (c1 _).mono ?_); rintro e w' ⟨rfl, hw⟩; rw [hw]; clear hw w'))
  go_cut [9, 10] (fun x9 x10 wx => x9 = .string pl ∧ x10 = .int .i64 0 ∧ Below wb.heap.size wb wx)
  case first =>
    go_region_held3 (fun w' => w'.cell? ⟨w.heap.size + 1, 0, none⟩ = some (.int .i64 role) ∧ w'.cell? ⟨w.heap.size + 1, 1, none⟩ = some (.int .i64 skip) ∧ w'.cell? ⟨w.heap.size + 1, 2, none⟩ = some (.int .i64 cp) ∧ w'.cell? ⟨w.heap.size + 1, 3, none⟩ = some (.int .i64 peer) ∧ w'.cell? ⟨w.heap.size, 7, none⟩ = some (.string u7)) (first | (simp [n0, n1, n2, n3, k7]; done) | (simp [g0, g1, g2, g3, g7]; done)) (first | (go_at_call 52; go_must (with_reducible refine (c2 _).mono ?_); rintro e w' ⟨rfl, hw⟩; rw [hw]; clear hw w') | (go_at_call 10; go_must (with_reducible refine (c3 _).mono ?_); rintro e w' ⟨rfl, hw⟩; rw [hw]; clear hw w') | (go_at_call 51; go_must (with_reducible refine (c4 _).mono ?_); rintro e w1 ⟨rfl, hb1⟩; have hb1' : Below wb.heap.size wb w1 := ⟨hb1.os, hb1.tape, hb1.output, hb1.size, hb1.block⟩; have g0 := (hb1'.cell (p := ⟨w.heap.size + 1, 0, none⟩) hlt).trans n0; have g1 := (hb1'.cell (p := ⟨w.heap.size + 1, 1, none⟩) hlt).trans n1; have g2 := (hb1'.cell (p := ⟨w.heap.size + 1, 2, none⟩) hlt).trans n2; have g3 := (hb1'.cell (p := ⟨w.heap.size + 1, 3, none⟩) hlt).trans n3; have g7 := (hb1'.cell (p := ⟨w.heap.size, 7, none⟩) (by show w.heap.size < _; omega)).trans k7; clear hb1'))
    all_goals (go_wp2_with fail)
    all_goals go_meet
    all_goals exact ⟨rfl, rfl, ⟨hb1.os, hb1.tape, hb1.output, hb1.size, hb1.block⟩⟩
  case rest =>
    obtain ⟨rfl, rfl, hb1⟩ := hcut; have HW1 : Hid (Below w.heap.size w wc) := below_tr HW.out hb1; clear hb1 n0 n1 n2 n3 k6 k7 HW c1 c2 c3 c4
    go_wp2_with (first | (go_at_call 25; (with_reducible refine (c5 _).mono ?_); rintro e w2 ⟨rfl, hb2⟩))
    go_ret2; exact ⟨rfl, below_tr HW1.out hb2⟩
end Go.Proofs.Ytabpkohcimiceab
