import Derived.Test.YtabpkohcimiceabFindA
import Derived.Test.YtabpkohcimiceabCre
namespace Go.Proofs.Ytabpkohcimiceab
set_option maxRecDepth 100000
set_option maxHeartbeats 1000000
open Go.RowKit
set_option linter.unusedVariables false
def stateCells (sort : Int) (rep : List UInt8) (lv : Nat) (ss : StM) (a : Option Addr) (n c : Nat) : Array Value := #[.int .i64 sort, .string (str rep), .int .i64 lv, .int .i64 ss.role, .int .i64 ss.step, .int .i64 ss.sent, .int .i64 ss.got, .int .i64 ss.prev, .int .i64 ss.skip, .int .i64 ss.cap, .string (str ss.root), .string (str ss.out), .string (str ss.inn), .int .i64 ss.secret, .int .i64 ss.peer, .slice a n c]
def repL (d : List UInt8) : List UInt8 := if d.take 32 = List.replicate 32 0 then List.replicate d.length 0 else if heldOk d then packL (heldS d) (liveL d) d.length else []
def sortL (d : List UInt8) : Int := if d = List.replicate d.length 0 then 1 else if d.take 32 = List.replicate 32 0 then 2 else if heldOk d then (if d = packL (heldS d) (liveL d) d.length then 3 else 2) else 0
def FindOut (d : List UInt8) (base : Nat) (w' : World) (e : Ending) : Prop := ∃ (ss : StM) (lv : Nat) (a : Option Addr) (n c : Nat), e = .returned (.agg (stateCells (sortL d) (repL d) lv ss a n c)) ∧ (sortL d = 3 → ss = heldS d ∧ lv = liveL d ∧ w'.ownsRow base 142 3 (.slice a n c) ss.kept.length (entsCells ss.kept))
theorem nought_below (n : Int) (w : World) (h1 : n ≤ 1000000) :
    Calls Try.prog 77 #[.int .i64 n] w fun e w' => e = .returned (.string (str (List.replicate n.toNat 0))) ∧ Below w.heap.size w w' := by
  refine (noughts_dev n w h1).mono ?_
  rintro e w' ⟨he, rfl | ⟨c, rfl⟩⟩
  · exact ⟨he, Below.refl _ _⟩
  · exact ⟨he, (Below.refl _ _).alloc (Nat.le_refl _) _⟩
theorem find_zero (d : ByteArray) (k : Nat) (w : World) (hk : d.size = k * 32) (hk1 : 1 ≤ k) (hk2 : k ≤ 40) (h : d.data.toList.take 32 = List.replicate 32 0) :
    Calls Try.prog 54 #[.string d] w fun e w' => FindOut d.data.toList w.heap.size w' e ∧ Below w.heap.size w w' := by
  have hdl := len_list d
  have cz := fun w => nought_below ((k : Int) * 32) w (by omega)
  rw [show ((k : Int) * 32).toNat = k * 32 by omega] at cz
  have hbq := str_beq2 d (List.replicate (k * 32) 0)
  have hrep : repL d.data.toList = List.replicate (k * 32) 0 := by rw [repL, if_pos h, hdl, hk]
  by_cases hz : d.data.toList = List.replicate (k * 32) 0
  · rw [decide_eq_true hz] at hbq
    have hs : sortL d.data.toList = 1 := by rw [sortL, if_pos (by rw [hdl, hk]; exact hz)]
    have HF : Hid (∀ w', FindOut d.data.toList w.heap.size w' (.returned (.agg (stateCells 1 (List.replicate (k * 32) 0) 0 zeroS none 0 0)))) := fun w' => ⟨zeroS, 0, none, 0, 0, by rw [hs, hrep], fun q => by rw [hs] at q; omega⟩
    obtain ⟨zz, hzz⟩ : ∃ z, z = str (List.replicate (k * 32) (0 : UInt8)) := ⟨_, rfl⟩
    rw [← hzz] at cz hbq
    have HZ : Hid (zz = str (List.replicate (k * 32) (0 : UInt8))) := hzz; clear hs hz h hrep hzz
    go_enter Try.func54, Try.ntmps54
    go_upto_region 3 with (first | (go_at_call 77; refine (cz _).mono ?_; rintro e w1 ⟨rfl, hb1⟩))
    have hA := (hb1.block w.heap.size (by simp)).trans (heap_alloc_new w _)
    obtain ⟨a0, a1, a2, a3, a4, a5, a6, a7, a8, a9, a10, a11, a12, a13, a14, a15⟩ := cells16 hA
    have fA : ∀ j, w1.frozen? ⟨w.heap.size, j, none⟩ = false := fun j => frozen_of_row w1 _ j _ _ hA
    have HW : Hid (Below w.heap.size w w1) := below_tr ((Below.refl _ _).alloc (Nat.le_refl _) _) hb1; clear hA hb1 cz; go_wp2
    (try simp only [Exit.inBlock, Exit.then])
    refine bodyPost_ret (v := .agg (stateCells 1 (List.replicate (k * 32) 0) 0 zeroS none 0 0)) ?_ ?_ ?_
    · simp [results, go_sem, stateCells, zeroS, HZ.out, a0, a1, a2, a3, a4, a5, a6, a7, a8, a9, a10, a11, a12, a13, a14, a15]
      try rfl
    · rfl
    · refine ⟨HF.out _, ?_⟩
      repeat (with_reducible refine Below.setCell ?_ (by exact Nat.le_refl _) _)
      exact HW.out
  · rw [decide_eq_false hz] at hbq
    have hs : sortL d.data.toList = 2 := by rw [sortL, if_neg (by rw [hdl, hk]; exact hz), if_pos h]
    have HF : Hid (∀ w', FindOut d.data.toList w.heap.size w' (.returned (.agg (stateCells 2 (List.replicate (k * 32) 0) 0 zeroS none 0 0)))) := fun w' => ⟨zeroS, 0, none, 0, 0, by rw [hs, hrep], fun q => by rw [hs] at q; omega⟩
    have c0 : ∀ w, Calls Try.prog 78 #[.string d, .int .i64 0] w fun e w' => e = .returned (.string (str (d.data.toList.take 32))) ∧ w' = w := fun w => by
      have := sector_any d k 0 w (by omega) hk (by omega)
      rw [secL] at this
      exact this
    have cn := fun w => isNoughts_any (str (d.data.toList.take 32)) w (by rw [str_size, List.length_take]; unfold maxLen; omega)
    rw [str_toList, str_size, h, List.length_replicate, decide_eq_true rfl] at cn
    rw [h] at c0
    obtain ⟨zz, hzz⟩ : ∃ z, z = str (List.replicate (k * 32) (0 : UInt8)) := ⟨_, rfl⟩
    rw [← hzz] at cz hbq
    have HZ : Hid (zz = str (List.replicate (k * 32) (0 : UInt8))) := hzz; clear hs hz h hrep hzz
    generalize str (List.replicate 32 (0 : UInt8)) = z32 at *
    go_enter Try.func54, Try.ntmps54
    go_upto_region 5 with (first | (go_at_call 77; refine (cz _).mono ?_; rintro e w1 ⟨rfl, hb1⟩) | (go_at_call 78; with_reducible refine (c0 _).mono ?_; rintro e w' ⟨rfl, hw⟩; rw [hw]; clear hw w') | (go_at_call 74; with_reducible refine (cn _).mono ?_; rintro e w' ⟨rfl, hw⟩; rw [hw]; clear hw w'))
    have hA := (hb1.block w.heap.size (by simp)).trans (heap_alloc_new w _)
    obtain ⟨a0, a1, a2, a3, a4, a5, a6, a7, a8, a9, a10, a11, a12, a13, a14, a15⟩ := cells16 hA
    have fA : ∀ j, w1.frozen? ⟨w.heap.size, j, none⟩ = false := fun j => frozen_of_row w1 _ j _ _ hA
    have HW : Hid (Below w.heap.size w w1) := below_tr ((Below.refl _ _).alloc (Nat.le_refl _) _) hb1; clear hA hb1 cz; go_wp2
    (try simp only [Exit.inBlock, Exit.then])
    refine bodyPost_ret (v := .agg (stateCells 2 (List.replicate (k * 32) 0) 0 zeroS none 0 0)) ?_ ?_ ?_
    · simp [results, go_sem, stateCells, zeroS, HZ.out, a0, a1, a2, a3, a4, a5, a6, a7, a8, a9, a10, a11, a12, a13, a14, a15]
      try rfl
    · rfl
    · refine ⟨HF.out _, ?_⟩
      repeat (with_reducible refine Below.setCell ?_ (by exact Nat.le_refl _) _)
      exact HW.out
theorem find_bad (d : ByteArray) (k : Nat) (w : World) (hk : d.size = k * 32) (hk1 : 1 ≤ k) (hk2 : k ≤ 40) (h : ¬ d.data.toList.take 32 = List.replicate 32 0) (hno : ¬ heldOk d.data.toList) :
    Calls Try.prog 54 #[.string d] w fun e w' => FindOut d.data.toList w.heap.size w' e ∧ Below w.heap.size w w' := by
  have hdl := len_list d
  have cz := fun w => nought_below ((k : Int) * 32) w (by omega)
  have hbq := str_beq2 d (List.replicate (k * 32) 0)
  have hz : ¬ d.data.toList = List.replicate (k * 32) 0 := by
    intro e
    apply h
    rw [e, List.take_replicate, Nat.min_eq_left (by omega)]
  rw [show ((k : Int) * 32).toNat = k * 32 by omega] at cz
  rw [decide_eq_false hz] at hbq
  have c0 : ∀ w, Calls Try.prog 78 #[.string d, .int .i64 0] w fun e w' => e = .returned (.string (str (d.data.toList.take 32))) ∧ w' = w := fun w => by
    have := sector_any d k 0 w (by omega) hk (by omega)
    rw [secL] at this
    exact this
  have cn := fun w => isNoughts_any (str (d.data.toList.take 32)) w (by rw [str_size, List.length_take]; unfold maxLen; omega)
  have ht32 : (d.data.toList.take 32).length = 32 := by rw [List.length_take]; omega
  rw [str_toList, str_size, ht32, decide_eq_false h] at cn
  have c5 : ∀ w, Calls Try.prog 63 #[.string d, .int .i64 5] w fun e w' => e = .returned (.int .i64 ((d.data.toList.getD 5 0).toNat : Int)) ∧ w' = w := fun w => tbyte_any d 5 w (by unfold maxLen; omega) (by omega)
  have cr := fun w => storeRead_any d k w hk hk1 hk2
  have hs0 : d.data.toList ≠ List.replicate d.data.toList.length 0 := by rw [hdl, hk]; exact hz
  generalize str (List.replicate (k * 32) (0 : UInt8)) = zz at *
  generalize str (d.data.toList.take 32) = z32 at *
  have hrep : repL d.data.toList = [] := by rw [repL, if_neg h, if_neg hno]
  have hs : sortL d.data.toList = 0 := by rw [sortL, if_neg hs0, if_neg h, if_neg hno]
  have HF : Hid (∀ w', FindOut d.data.toList w.heap.size w' (.returned (.agg (stateCells 0 [] 0 zeroS none 0 0)))) := fun w' => ⟨zeroS, 0, none, 0, 0, by rw [hs, hrep], fun q => by rw [hs] at q; omega⟩
  have cr2 : ∀ w, Calls Try.prog 79 #[.string d, .int .i64 ((d.data.toList.getD 5 0).toNat : Int)] w fun e w' => (∃ (ss : StM) (aa : Option Addr) (nn cc : Nat), e = .returned (.tuple #[.agg #[.int .i64 ss.role, .int .i64 ss.step, .int .i64 ss.sent, .int .i64 ss.got, .int .i64 ss.prev, .int .i64 ss.skip, .int .i64 ss.cap, .string (str ss.root), .string (str ss.out), .string (str ss.inn), .int .i64 ss.secret, .int .i64 ss.peer, .slice aa nn cc], .bool false])) ∧ Below w.heap.size w w' := by
    intro w
    refine (cr w).mono ?_
    rintro e w' ⟨hq, hb⟩
    rcases hq with ⟨hq, _⟩ | ⟨_, hq⟩
    · exact absurd hq hno
    · exact ⟨hq, hb⟩
  generalize (d.data.toList.getD 5 0).toNat = x5 at *
  clear hs hs0 hz h hrep hno cr ht32
  go_enter Try.func54, Try.ntmps54
  go_upto_region 9 with (first | (go_at_call 77; refine (cz _).mono ?_; rintro e w1 ⟨rfl, hb1⟩) | (go_at_call 78; with_reducible refine (c0 _).mono ?_; rintro e w' ⟨rfl, hw⟩; rw [hw]; clear hw w') | (go_at_call 74; with_reducible refine (cn _).mono ?_; rintro e w' ⟨rfl, hw⟩; rw [hw]; clear hw w') | (go_at_call 63; with_reducible refine (c5 _).mono ?_; rintro e w' ⟨rfl, hw⟩; rw [hw]; clear hw w') | (go_at_call 79; with_reducible refine (cr2 _).mono ?_; rintro e w2 ⟨⟨ss, aa, nn, cc, rfl⟩, hb2⟩))
  have hsz1 := hb1.size
  simp at hsz1
  have hsz2 := hb2.size
  have hA1 := (hb1.block w.heap.size (by simp)).trans (heap_alloc_new w _)
  have hA2 := (hb2.block w.heap.size (by omega)).trans hA1
  have HW : Hid (Below w.heap.size w w2) := below_tr (below_tr ((Below.refl _ _).alloc (Nat.le_refl _) _) hb1) hb2; obtain ⟨a0, a1, a2, a3, a4, a5, a6, a7, a8, a9, a10, a11, a12, a13, a14, a15⟩ := cells16 hA2
  have fA : ∀ j, w2.frozen? ⟨w.heap.size, j, none⟩ = false := fun j => frozen_of_row w2 _ j _ _ hA2
  have hlt2 : w.heap.size < w2.heap.size := by omega
  clear hA1 hA2 hb1 hb2 cz cr2 c0 cn c5; go_wp2
  (try simp only [Exit.inBlock, Exit.then])
  refine bodyPost_ret (v := .agg (stateCells 0 [] 0 zeroS none 0 0)) ?_ ?_ ?_
  · simp [results, go_sem, stateCells, zeroS, hlt2, a0, a1, a2, a3, a4, a5, a6, a7, a8, a9, a10, a11, a12, a13, a14, a15]
    rfl
  · rfl
  · refine ⟨HF.out _, ?_⟩
    repeat (first | (with_reducible refine Below.setCell ?_ (by exact Nat.le_refl _) _) | (with_reducible refine Below.alloc ?_ (by simp; omega) _))
    first | exact HW.out | exact HW.out.alloc HW.out.size _
theorem heldS_okD (d : List UInt8) (h : heldOk d) : StOk (heldS d) ∧ (heldS d).kept.length ≤ (heldS d).cap ∧ (heldS d).cap = (d.getD 4 0).toNat := by
  obtain ⟨hh, h6, h7, _⟩ := h; have hl := sideOf_length d hh; obtain ⟨_, h4, _⟩ := hh; obtain ⟨_, _, h3⟩ := halfN_le _ h4
  refine ⟨seen_ok _ _ (by omega) h4 h7, ?_, rfl⟩
  show ((List.range ((sideOf d).getD 7 0).toNat).map (entAt (sideOf d))).length ≤ _
  rw [kept_len]; exact h7
theorem find_held (d : ByteArray) (k : Nat) (w : World) (hk : d.size = k * 32) (hk1 : 1 ≤ k) (hk2 : k ≤ 40) (h : ¬ d.data.toList.take 32 = List.replicate 32 0) (hyes : heldOk d.data.toList) :
    Calls Try.prog 54 #[.string d] w fun e w' => FindOut d.data.toList w.heap.size w' e ∧ Below w.heap.size w w' := by
  have hdl := len_list d
  have cz := fun w => nought_below ((k : Int) * 32) w (by omega)
  have hbq := str_beq2 d (List.replicate (k * 32) 0)
  have hz : ¬ d.data.toList = List.replicate (k * 32) 0 := by
    intro e
    apply h
    rw [e, List.take_replicate, Nat.min_eq_left (by omega)]
  rw [show ((k : Int) * 32).toNat = k * 32 by omega] at cz
  rw [decide_eq_false hz] at hbq
  have c0 : ∀ w, Calls Try.prog 78 #[.string d, .int .i64 0] w fun e w' => e = .returned (.string (str (d.data.toList.take 32))) ∧ w' = w := fun w => by
    have := sector_any d k 0 w (by omega) hk (by omega)
    rw [secL] at this
    exact this
  have cn := fun w => isNoughts_any (str (d.data.toList.take 32)) w (by rw [str_size, List.length_take]; unfold maxLen; omega)
  have ht32 : (d.data.toList.take 32).length = 32 := by rw [List.length_take]; omega
  rw [str_toList, str_size, ht32, decide_eq_false h] at cn
  have c5 : ∀ w, Calls Try.prog 63 #[.string d, .int .i64 5] w fun e w' => e = .returned (.int .i64 ((d.data.toList.getD 5 0).toNat : Int)) ∧ w' = w := fun w => tbyte_any d 5 w (by unfold maxLen; omega) (by omega)
  have cr := fun w => storeRead_any d k w hk hk1 hk2
  have hs0 : d.data.toList ≠ List.replicate d.data.toList.length 0 := by rw [hdl, hk]; exact hz
  generalize str (List.replicate (k * 32) (0 : UInt8)) = zz at *
  generalize str (d.data.toList.take 32) = z32 at *
  obtain ⟨o1, o2, o3⟩ := heldS_okD _ hyes; have hlv : liveL d.data.toList ≤ 1 := hyes.1.2.2.1
  have hcap : (heldS d.data.toList).cap ≤ 30 := by rw [o3]; exact hyes.1.2.1
  have hrep : repL d.data.toList = packL (heldS d.data.toList) (liveL d.data.toList) (k * 32) := by rw [repL, if_neg h, if_pos hyes, hdl, hk]
  have hs : sortL d.data.toList = if d.data.toList = packL (heldS d.data.toList) (liveL d.data.toList) (k * 32) then 3 else 2 := by rw [sortL, if_neg hs0, if_neg h, if_pos hyes, hdl, hk]
  have hx5 : (d.data.toList.getD 5 0).toNat = liveL d.data.toList := rfl
  have cl := fun v w h => lay_any (heldS d.data.toList) v (liveL d.data.toList) k w o1 o2 hcap h hlv hk2
  have cs := fun w => sectors_any d k w (by unfold maxLen; omega) hk
  have cr2 : ∀ w, Calls Try.prog 79 #[.string d, .int .i64 (liveL d.data.toList : Int)] w fun e w' => (∃ (aa : Option Addr) (nn cc : Nat), e = .returned (.tuple #[.agg #[.int .i64 ((heldS d.data.toList).role : Int), .int .i64 ((heldS d.data.toList).step : Int), .int .i64 ((heldS d.data.toList).sent : Int), .int .i64 ((heldS d.data.toList).got : Int), .int .i64 ((heldS d.data.toList).prev : Int), .int .i64 ((heldS d.data.toList).skip : Int), .int .i64 ((heldS d.data.toList).cap : Int), .string (str (heldS d.data.toList).root), .string (str (heldS d.data.toList).out), .string (str (heldS d.data.toList).inn), .int .i64 ((heldS d.data.toList).secret : Int), .int .i64 ((heldS d.data.toList).peer : Int), .slice aa nn cc], .bool true]) ∧ w'.ownsRow w.heap.size 142 3 (.slice aa nn cc) (heldS d.data.toList).kept.length (entsCells (heldS d.data.toList).kept)) ∧ Below w.heap.size w w' := by
    intro w
    refine (cr w).mono ?_
    rintro e w' ⟨hq, hb⟩
    rcases hq with ⟨_, v, he, hv⟩ | ⟨hq, _⟩
    · obtain ⟨aa, nn, cc, hvv⟩ := owns_form hv; subst hvv; exact ⟨⟨aa, nn, cc, he, hv⟩, hb⟩
    · exact absurd hyes hq
  have hpq := str_beq2 d (packL (heldS d.data.toList) (liveL d.data.toList) (k * 32))
  rw [hx5] at c5
  have HFO : Hid (∀ w' a n c, w'.ownsRow w.heap.size 142 3 (.slice a n c) (heldS d.data.toList).kept.length (entsCells (heldS d.data.toList).kept) → FindOut d.data.toList w.heap.size w' (.returned (.agg (stateCells (if d.data.toList = packL (heldS d.data.toList) (liveL d.data.toList) (k * 32) then 3 else 2) (packL (heldS d.data.toList) (liveL d.data.toList) (k * 32)) (liveL d.data.toList) (heldS d.data.toList) a n c)))) := fun w' a n c he => ⟨heldS d.data.toList, liveL d.data.toList, a, n, c, by rw [hs, hrep], fun _ => ⟨rfl, rfl, he⟩⟩
  have HF2 : Hid (¬ d.data.toList = packL (heldS d.data.toList) (liveL d.data.toList) (k * 32) → ∀ w', FindOut d.data.toList w.heap.size w' (.returned (.agg (stateCells 2 (packL (heldS d.data.toList) (liveL d.data.toList) (k * 32)) 0 zeroS none 0 0)))) := fun hne w' => ⟨zeroS, 0, none, 0, 0, by rw [hs, hrep, if_neg hne], fun q => by rw [hs, if_neg hne] at q; omega⟩
  generalize hpk : packL (heldS d.data.toList) (liveL d.data.toList) (k * 32) = pl at *
  generalize heldS d.data.toList = ss at *
  generalize liveL d.data.toList = lv at *
  clear hs hs0 hz h hrep hyes cr ht32 hx5 o1 o2 o3 hpk hcap
  go_enter Try.func54, Try.ntmps54
  go_upto_region 10 with (first | (go_at_call 77; refine (cz _).mono ?_; rintro e w1 ⟨rfl, hb1⟩) | (go_at_call 78; with_reducible refine (c0 _).mono ?_; rintro e w' ⟨rfl, hw⟩; rw [hw]; clear hw w') | (go_at_call 74; with_reducible refine (cn _).mono ?_; rintro e w' ⟨rfl, hw⟩; rw [hw]; clear hw w') | (go_at_call 63; with_reducible refine (c5 _).mono ?_; rintro e w' ⟨rfl, hw⟩; rw [hw]; clear hw w') | (go_at_call 79; with_reducible refine (cr2 _).mono ?_; rintro e w2 ⟨⟨aa, nn, cc, rfl, hv⟩, hb2⟩))
  have hsz1 := hb1.size
  simp at hsz1
  have hsz2 := hb2.size
  have hA1 := (hb1.block w.heap.size (by simp)).trans (heap_alloc_new w _)
  have hA2 := (hb2.block w.heap.size (by omega)).trans hA1
  have hAx : (w2.alloc (Obj.cells #[.int .i64 ss.role, .int .i64 ss.step, .int .i64 ss.sent, .int .i64 ss.got, .int .i64 ss.prev, .int .i64 ss.skip, .int .i64 ss.cap, .string (str ss.root), .string (str ss.out), .string (str ss.inn), .int .i64 ss.secret, .int .i64 ss.peer, .slice aa nn cc] 84)).heap[w.heap.size]? = some (.cells #[.int .i64 0, .string ⟨#[]⟩, .int .i64 0, .int .i64 0, .int .i64 0, .int .i64 0, .int .i64 0, .int .i64 0, .int .i64 0, .int .i64 0, .string ⟨#[]⟩, .string ⟨#[]⟩, .string ⟨#[]⟩, .int .i64 0, .int .i64 0, .slice none 0 0] 86) := (Below.heap_alloc w2 _ _ (by omega)).trans hA2
  have hst : StAt (w2.alloc (Obj.cells #[.int .i64 ss.role, .int .i64 ss.step, .int .i64 ss.sent, .int .i64 ss.got, .int .i64 ss.prev, .int .i64 ss.skip, .int .i64 ss.cap, .string (str ss.root), .string (str ss.out), .string (str ss.inn), .int .i64 ss.secret, .int .i64 ss.peer, .slice aa nn cc] 84)) w2.heap.size ss (.slice aa nn cc) := StAt.madeD w2 ss (.slice aa nn cc); have hvx : EntsAt (w2.alloc (Obj.cells #[.int .i64 ss.role, .int .i64 ss.step, .int .i64 ss.sent, .int .i64 ss.got, .int .i64 ss.prev, .int .i64 ss.skip, .int .i64 ss.cap, .string (str ss.root), .string (str ss.out), .string (str ss.inn), .int .i64 ss.secret, .int .i64 ss.peer, .slice aa nn cc] 84)) (.slice aa nn cc) ss.kept := EntsAt.of_own (hv.alloc _)
  have hox : (w2.alloc (Obj.cells #[.int .i64 ss.role, .int .i64 ss.step, .int .i64 ss.sent, .int .i64 ss.got, .int .i64 ss.prev, .int .i64 ss.skip, .int .i64 ss.cap, .string (str ss.root), .string (str ss.out), .string (str ss.inn), .int .i64 ss.secret, .int .i64 ss.peer, .slice aa nn cc] 84)).ownsRow (w.heap.size + 1) 142 3 (.slice aa nn cc) ss.kept.length (entsCells ss.kept) := ownsRow_base (hv.alloc _) (by omega)
  have hwx : Below w.heap.size w (w2.alloc (Obj.cells #[.int .i64 ss.role, .int .i64 ss.step, .int .i64 ss.sent, .int .i64 ss.got, .int .i64 ss.prev, .int .i64 ss.skip, .int .i64 ss.cap, .string (str ss.root), .string (str ss.out), .string (str ss.inn), .int .i64 ss.secret, .int .i64 ss.peer, .slice aa nn cc] 84)) := (below_tr (below_tr ((Below.refl _ _).alloc (Nat.le_refl _) _) hb1) hb2).alloc (by omega) _
  have hBA : w.heap.size < w2.heap.size := by omega
  generalize (w2.alloc (Obj.cells #[.int .i64 ss.role, .int .i64 ss.step, .int .i64 ss.sent, .int .i64 ss.got, .int .i64 ss.prev, .int .i64 ss.skip, .int .i64 ss.cap, .string (str ss.root), .string (str ss.out), .string (str ss.inn), .int .i64 ss.secret, .int .i64 ss.peer, .slice aa nn cc] 84)) = wx at hAx hst hvx hwx hox ⊢
  generalize w2.heap.size = B at hst hBA ⊢
  have cl2 : ∀ w, EntsAt w (.slice aa nn cc) ss.kept → Calls Try.prog 58 #[.agg #[.int .i64 ss.role, .int .i64 ss.step, .int .i64 ss.sent, .int .i64 ss.got, .int .i64 ss.prev, .int .i64 ss.skip, .int .i64 ss.cap, .string (str ss.root), .string (str ss.out), .string (str ss.inn), .int .i64 ss.secret, .int .i64 ss.peer, .slice aa nn cc], .int .i64 lv, .int .i64 k] w fun e w' => e = .returned (.string (str pl)) ∧ Below w.heap.size w w' := fun w h => cl (.slice aa nn cc) w h
  have HV := hid hvx; have HS : Hid (StAt wx B ss (.slice aa nn cc)) := hst; have HO := hid hox; clear hox; have HWX := hid hwx; have HAX := hid hAx; clear hb1 hb2 hA1 hA2 hAx hv hvx hwx cz cr2 c0 cn c5 cl hsz1 hsz2; obtain ⟨lt, k0, k1, k2, k3, k4, k5, k6, k7, k8, k9, k10, k11, k12⟩ := hst
  obtain ⟨pk, hpk2⟩ : ∃ pk, pk = str pl := ⟨_, rfl⟩
  rw [← hpk2] at hpq cl2
  have HPK : Hid (pk = str pl) := hpk2; clear hpk2
  go_cut [7] (fun t wy => t = .string pk ∧ Below wx.heap.size wx wy)
  case first =>
    go_region_with (first | (go_at_call 59; with_reducible refine (cs _).mono ?_; rintro e w' ⟨rfl, hw⟩; rw [hw]; clear hw w') | (go_at_call 58; with_reducible refine (cl2 _ (by first | exact HV.out | exact HV.out.next (Below.refl _ _).drew)).mono ?_; rintro e wz ⟨rfl, hbz⟩))
    all_goals (go_wp2_with fail)
    all_goals go_meet
    all_goals exact ⟨rfl, ⟨hbz.os, hbz.tape, hbz.output, hbz.size, hbz.block⟩⟩
  case rest =>
    obtain ⟨rfl, hby⟩ := hcut; have hS2 := HS.out.next hby; have HV2 : Hid (EntsAt wc (.slice aa nn cc) ss.kept) := HV.out.next hby; have HO2 : Hid (wc.ownsRow (w.heap.size + 1) 142 3 (.slice aa nn cc) ss.kept.length (entsCells ss.kept)) := ownsRow_below HO.out hby; have HW2 : Hid (Below w.heap.size w wc) := below_tr HWX.out hby
    have hA := (hby.block w.heap.size (by omega)).trans HAX.out
    obtain ⟨a0, a1, a2, a3, a4, a5, a6, a7, a8, a9, a10, a11, a12, a13, a14, a15⟩ := cells16 hA
    have fA : ∀ j, wc.frozen? ⟨w.heap.size, j, none⟩ = false := fun j => frozen_of_row wc _ j _ _ hA
    clear hA hby k0 k1 k2 k3 k4 k5 k6 k7 k8 k9 k10 k11 k12 lt HS HV HWX HAX cl2 cs; obtain ⟨lt, k0, k1, k2, k3, k4, k5, k6, k7, k8, k9, k10, k11, k12⟩ := hS2
    by_cases hd : d.data.toList = pl
    · rw [decide_eq_true hd] at hpq
      have HF : Hid (∀ w', w'.ownsRow w.heap.size 142 3 (.slice aa nn cc) ss.kept.length (entsCells ss.kept) → FindOut d.data.toList w.heap.size w' (.returned (.agg (stateCells 3 pl lv ss aa nn cc)))) := fun w' he => by
        have := HFO.out w' aa nn cc he
        rwa [if_pos hd] at this
      clear hd HFO HF2; go_wp2
      (try simp only [Exit.inBlock, Exit.then])
      refine bodyPost_ret (v := .agg (stateCells 3 pl lv ss aa nn cc)) ?_ ?_ ?_
      · simp [results, go_sem, stateCells, HPK.out, a0, a1, a2, a3, a4, a5, a6, a7, a8, a9, a10, a11, a12, a13, a14, a15]
      · rfl
      · refine ⟨HF.out _ ?_, ?_⟩
        · refine ownsRow_base (base := w.heap.size + 1) ?_ (Nat.le_succ _)
          repeat (with_reducible refine ownsRow_setCell_below ?_ (by exact Nat.lt_succ_self _) _)
          exact HO2.out
        · repeat (with_reducible refine Below.setCell ?_ (by exact Nat.le_refl _) _)
          exact HW2.out
    · rw [decide_eq_false hd] at hpq
      have HF : Hid (∀ w', FindOut d.data.toList w.heap.size w' (.returned (.agg (stateCells 2 pl 0 zeroS none 0 0)))) := HF2.out hd; clear hd HFO HF2; go_wp2
      (try simp only [Exit.inBlock, Exit.then])
      refine bodyPost_ret (v := .agg (stateCells 2 pl 0 zeroS none 0 0)) ?_ ?_ ?_
      · simp [results, go_sem, stateCells, zeroS, HPK.out, a0, a1, a2, a3, a4, a5, a6, a7, a8, a9, a10, a11, a12, a13, a14, a15]
        try rfl
      · rfl
      · refine ⟨HF.out _, ?_⟩
        repeat (with_reducible refine Below.setCell ?_ (by exact Nat.le_refl _) _)
        exact HW2.out
theorem find_any (d : ByteArray) (k : Nat) (w : World) (hk : d.size = k * 32) (hk1 : 1 ≤ k) (hk2 : k ≤ 40) :
    Calls Try.prog 54 #[.string d] w fun e w' => FindOut d.data.toList w.heap.size w' e ∧ Below w.heap.size w w' := by
  by_cases h : d.data.toList.take 32 = List.replicate 32 0
  · exact find_zero d k w hk hk1 hk2 h
  · by_cases ho : heldOk d.data.toList
    · exact find_held d k w hk hk1 hk2 h ho
    · exact find_bad d k w hk hk1 hk2 h ho
theorem sort_zero (d : List UInt8) (hD : isDiskL d = true) : (sortL d = 0 → repairR d = ([], 12)) ∧ (sortL d ≠ 0 → repairR d = (repL d, 0)) := by
  rw [repairR, if_pos hD, repL, sortL]
  by_cases h0 : d.take 32 = List.replicate 32 0
  · rw [if_pos h0, if_pos h0, if_pos h0]
    refine ⟨fun h => ?_, fun _ => rfl⟩
    split at h <;> omega
  · have hz : ¬ d = List.replicate d.length 0 := by
      intro e
      apply h0
      rw [isDiskL, decide_eq_true_eq] at hD
      rw [e, List.take_replicate, Nat.min_eq_left (by omega)]
    rw [if_neg h0, if_neg h0, if_neg h0, if_neg hz]
    by_cases ho : heldOk d
    · rw [if_pos ho, if_pos ho, if_pos ho]
      refine ⟨fun h => ?_, fun _ => rfl⟩
      split at h <;> omega
    · rw [if_neg ho, if_neg ho, if_neg ho]
      exact ⟨fun _ => rfl, fun h => absurd rfl h⟩
end Go.Proofs.Ytabpkohcimiceab
