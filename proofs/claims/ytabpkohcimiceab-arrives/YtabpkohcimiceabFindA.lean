import Derived.Test.YtabpkohcimiceabReadX
import Derived.Test.YtabpkohcimiceabPack
namespace Go.Proofs.Ytabpkohcimiceab
set_option maxRecDepth 100000
set_option maxHeartbeats 1000000
open Go.RowKit
set_option linter.unusedVariables false
def BoxOut (d : List UInt8) (b : Nat) (w' : World) (e : Ending) : Prop :=
  (heldOk d ∧ ∃ v, e = .returned (.tuple #[.agg (stCells (heldS d) v), .bool true]) ∧ w'.ownsRow b 142 3 v (heldS d).kept.length (entsCells (heldS d).kept)) ∨ (¬ heldOk d ∧ ReadNo e)
set_option maxHeartbeats 2000000 in
theorem storeRead_early (d : ByteArray) (k : Nat) (w : World) (hk : d.size = k * 32) (hk1 : 1 ≤ k) (hk2 : k ≤ 40) (h : ¬ (((d.data.toList.getD 4 0).toNat ≤ 30 ∧ (d.data.toList.getD 5 0).toNat ≤ 1) ∧ 1 + 2 * halfN (d.data.toList.getD 4 0).toNat ≤ k)) :
    Calls Try.prog 79 #[.string d, .int .i64 ((d.data.toList.getD 5 0).toNat : Int)] w fun e w' => BoxOut d.data.toList w.heap.size w' e ∧ Below w.heap.size w w' := by
  have c4 : ∀ w, Calls Try.prog 63 #[.string d, .int .i64 4] w fun e w' => e = .returned (.int .i64 ((d.data.toList.getD 4 0).toNat : Int)) ∧ w' = w := fun w => tbyte_any d 4 w (by unfold maxLen; omega) (by omega)
  have cs := fun w => sectors_any d k w (by unfold maxLen; omega) hk
  have b4 := byte_le (d.data.toList.getD 4 0)
  have cn := fun w => boxNeed_any (d.data.toList.getD 4 0).toNat w (by omega)
  have HNO : Hid (¬ heldOk d.data.toList) := fun x => h ⟨⟨x.1.2.1, x.1.2.2.1⟩, by have := x.1.2.2.2.2; rw [len_list] at this; omega⟩
  generalize (d.data.toList.getD 4 0).toNat = x4 at *
  generalize (d.data.toList.getD 5 0).toNat = x5 at *
  by_cases t4 : x4 ≤ 30
  · have t4I : ¬ (30 : Int) < (x4 : Int) := by omega
    have d4 : decide ((30 : Int) < (x4 : Int)) = false := decide_eq_false t4I
    by_cases t5 : x5 ≤ 1
    · have t5I : ¬ (1 : Int) < (x5 : Int) := by omega
      have d5 : decide ((1 : Int) < (x5 : Int)) = false := decide_eq_false t5I
      have tn : (k : Int) < ((1 + 2 * halfN x4 : Nat) : Int) := by
        have : ¬ 1 + 2 * halfN x4 ≤ k := fun q => h ⟨⟨t4, t5⟩, q⟩
        omega
      generalize 1 + 2 * halfN x4 = nn at *
      clear h
      go_enter Try.func79, Try.ntmps79
      go_wp2_with (first | (go_at_call 63; with_reducible refine (c4 _).mono ?_; rintro e w' ⟨rfl, hw⟩; rw [hw]; clear hw w') | (go_at_call 59; refine (cs _).mono ?_; rintro e w' ⟨rfl, hw⟩; rw [hw]; clear hw w') | (go_at_call 73; refine (cn _).mono ?_; rintro e w' ⟨rfl, hw⟩; rw [hw]; clear hw w'))
      (try simp only [Exit.inBlock, Exit.then])
      refine bodyPost_ret (v := .tuple #[.agg zeroCells13, .bool false]) ?_ ?_ ?_
      · rw [results_cell_tmp (fn := Try.f79) rfl]; simp [go_sem, zeroCells13]
      · rfl
      · exact ⟨.inr ⟨HNO.out, .zero⟩, (Below.refl _ _).alloc (Nat.le_refl _) _⟩
    · have t5I : (1 : Int) < (x5 : Int) := by omega
      clear h
      go_enter Try.func79, Try.ntmps79
      go_wp2_with (first | (go_at_call 63; with_reducible refine (c4 _).mono ?_; rintro e w' ⟨rfl, hw⟩; rw [hw]; clear hw w'))
      (try simp only [Exit.inBlock, Exit.then])
      refine bodyPost_ret (v := .tuple #[.agg zeroCells13, .bool false]) ?_ ?_ ?_
      · rw [results_cell_tmp (fn := Try.f79) rfl]; simp [go_sem, zeroCells13]
      · rfl
      · exact ⟨.inr ⟨HNO.out, .zero⟩, (Below.refl _ _).alloc (Nat.le_refl _) _⟩
  · have t4I : (30 : Int) < (x4 : Int) := by omega
    clear h
    go_enter Try.func79, Try.ntmps79
    go_wp2_with (first | (go_at_call 63; with_reducible refine (c4 _).mono ?_; rintro e w' ⟨rfl, hw⟩; rw [hw]; clear hw w'))
    (try simp only [Exit.inBlock, Exit.then])
    refine bodyPost_ret (v := .tuple #[.agg zeroCells13, .bool false]) ?_ ?_ ?_
    · rw [results_cell_tmp (fn := Try.f79) rfl]; simp [go_sem, zeroCells13]
    · rfl
    · exact ⟨.inr ⟨HNO.out, .zero⟩, (Below.refl _ _).alloc (Nat.le_refl _) _⟩
set_option maxHeartbeats 2000000 in
theorem storeRead_top (d : ByteArray) (k : Nat) (w : World) (hk : d.size = k * 32) (hk1 : 1 ≤ k) (hk2 : k ≤ 40) (h4 : (d.data.toList.getD 4 0).toNat ≤ 30) (h5 : (d.data.toList.getD 5 0).toNat ≤ 1) (hn : 1 + 2 * halfN (d.data.toList.getD 4 0).toNat ≤ k)
    (h : ¬ d.data.toList.take 32 = topL (d.data.toList.getD 4 0).toNat (d.data.toList.getD 5 0).toNat) :
    Calls Try.prog 79 #[.string d, .int .i64 ((d.data.toList.getD 5 0).toNat : Int)] w fun e w' => BoxOut d.data.toList w.heap.size w' e ∧ Below w.heap.size w w' := by
  have c4 : ∀ w, Calls Try.prog 63 #[.string d, .int .i64 4] w fun e w' => e = .returned (.int .i64 ((d.data.toList.getD 4 0).toNat : Int)) ∧ w' = w := fun w => tbyte_any d 4 w (by unfold maxLen; omega) (by omega)
  have cs := fun w => sectors_any d k w (by unfold maxLen; omega) hk
  have b4 := byte_le (d.data.toList.getD 4 0); have b5 := byte_le (d.data.toList.getD 5 0)
  have cn := fun w => boxNeed_any (d.data.toList.getD 4 0).toNat w (by omega)
  have c0 : ∀ w, Calls Try.prog 78 #[.string d, .int .i64 0] w fun e w' => e = .returned (.string (str (d.data.toList.take 32))) ∧ w' = w := fun w => by
    have := sector_any d k 0 w (by omega) hk (by omega)
    rw [secL] at this
    exact this
  have cf := fun w => first_any (d.data.toList.getD 4 0).toNat (d.data.toList.getD 5 0).toNat w (by omega) (by omega)
  have hbq := str_beq (d.data.toList.take 32) (topL (d.data.toList.getD 4 0).toNat (d.data.toList.getD 5 0).toNat)
  rw [decide_eq_false h] at hbq
  have HNO : Hid (¬ heldOk d.data.toList) := fun x => h x.1.2.2.2.1
  generalize str (d.data.toList.take 32) = s0 at *
  generalize str (topL (d.data.toList.getD 4 0).toNat (d.data.toList.getD 5 0).toNat) = tp at *
  generalize (d.data.toList.getD 4 0).toNat = x4 at *
  generalize (d.data.toList.getD 5 0).toNat = x5 at *
  have t4I : ¬ (30 : Int) < (x4 : Int) := by omega
  have d4 : decide ((30 : Int) < (x4 : Int)) = false := decide_eq_false t4I
  have t5I : ¬ (1 : Int) < (x5 : Int) := by omega
  have d5 : decide ((1 : Int) < (x5 : Int)) = false := decide_eq_false t5I
  have tn : ¬ (k : Int) < ((1 + 2 * halfN x4 : Nat) : Int) := by omega
  have dn : decide ((k : Int) < ((1 + 2 * halfN x4 : Nat) : Int)) = false := decide_eq_false tn; clear h
  generalize 1 + 2 * halfN x4 = nd at *
  go_enter Try.func79, Try.ntmps79
  go_upto_region 5 with (first | (go_at_call 63; with_reducible refine (c4 _).mono ?_; rintro e w' ⟨rfl, hw⟩; rw [hw]; clear hw w') | (go_at_call 59; refine (cs _).mono ?_; rintro e w' ⟨rfl, hw⟩; rw [hw]; clear hw w') | (go_at_call 73; refine (cn _).mono ?_; rintro e w' ⟨rfl, hw⟩; rw [hw]; clear hw w') | (go_at_call 78; with_reducible refine (c0 _).mono ?_; rintro e w' ⟨rfl, hw⟩; rw [hw]; clear hw w') | (go_at_call 84; refine (cf _).mono ?_; rintro e w1 ⟨rfl, hb1⟩))
  have hA := (hb1.block w.heap.size (by simp)).trans (heap_alloc_new w _)
  obtain ⟨a0, a1, a2, a3, a4, a5, a6, a7, a8, a9, a10, a11, a12⟩ := cells13 hA
  have fA : ∀ j, w1.frozen? ⟨w.heap.size, j, none⟩ = false := fun j => frozen_of_row w1 _ j _ _ hA
  have HW : Hid (Below w.heap.size w w1) := below_tr ((Below.refl _ _).alloc (Nat.le_refl _) _) hb1; clear hA hb1; go_wp2
  (try simp only [Exit.inBlock, Exit.then])
  refine bodyPost_ret (v := .tuple #[.agg zeroCells13, .bool false]) ?_ ?_ ?_
  · rw [results_cell_tmp (fn := Try.f79) rfl]; simp [go_sem, zeroCells13, a0, a1, a2, a3, a4, a5, a6, a7, a8, a9, a10, a11, a12]
  · rfl
  · refine ⟨.inr ⟨HNO.out, .zero⟩, ?_⟩
    repeat (with_reducible refine Below.setCell ?_ (by exact Nat.le_refl _) _)
    exact HW.out
theorem sideOf_part (d : List UInt8) (h : headOk d) : partL d (32 + ((d.getD 5 0).toNat * (halfN (d.getD 4 0).toNat * 32) : Nat)) ((halfN (d.getD 4 0).toNat : Int) * 32) = sideOf d := by
  obtain ⟨_, h2, h3, _, h5⟩ := h
  have hx : (d.getD 5 0).toNat = 0 ∨ (d.getD 5 0).toNat = 1 := by omega
  rw [partL, if_pos (by rcases hx with e | e <;> rw [e] <;> omega), sideOf, fromL]
  congr 2 <;> omega
theorem storeRead_ok (d : ByteArray) (k : Nat) (w : World) (hk : d.size = k * 32) (hk1 : 1 ≤ k) (hk2 : k ≤ 40) (h4 : (d.data.toList.getD 4 0).toNat ≤ 30) (h5 : (d.data.toList.getD 5 0).toNat ≤ 1) (hn : 1 + 2 * halfN (d.data.toList.getD 4 0).toNat ≤ k)
    (h : d.data.toList.take 32 = topL (d.data.toList.getD 4 0).toNat (d.data.toList.getD 5 0).toNat) :
    Calls Try.prog 79 #[.string d, .int .i64 ((d.data.toList.getD 5 0).toNat : Int)] w fun e w' => BoxOut d.data.toList w.heap.size w' e ∧ Below w.heap.size w w' := by
  have hh : headOk d.data.toList := ⟨by rw [len_list]; omega, h4, h5, h, by rw [len_list]; omega⟩
  have c4 : ∀ w, Calls Try.prog 63 #[.string d, .int .i64 4] w fun e w' => e = .returned (.int .i64 ((d.data.toList.getD 4 0).toNat : Int)) ∧ w' = w := fun w => tbyte_any d 4 w (by unfold maxLen; omega) (by omega)
  have cs := fun w => sectors_any d k w (by unfold maxLen; omega) hk
  have b4 := byte_le (d.data.toList.getD 4 0); have b5 := byte_le (d.data.toList.getD 5 0)
  have cn := fun w => boxNeed_any (d.data.toList.getD 4 0).toNat w (by omega)
  have c0 : ∀ w, Calls Try.prog 78 #[.string d, .int .i64 0] w fun e w' => e = .returned (.string (str (d.data.toList.take 32))) ∧ w' = w := fun w => by
    have := sector_any d k 0 w (by omega) hk (by omega)
    rw [secL] at this
    exact this
  have cf := fun w => first_any (d.data.toList.getD 4 0).toNat (d.data.toList.getD 5 0).toNat w (by omega) (by omega)
  have hbq := str_beq (d.data.toList.take 32) (topL (d.data.toList.getD 4 0).toNat (d.data.toList.getD 5 0).toNat)
  rw [decide_eq_true h] at hbq
  have hsl := sideOf_length _ hh
  have cz := fun w => sideSize_any (d.data.toList.getD 4 0).toNat w (by omega)
  have cp := fun w => part_any d (32 + (((d.data.toList.getD 5 0).toNat * (halfN (d.data.toList.getD 4 0).toNat * 32) : Nat) : Int)) ((halfN (d.data.toList.getD 4 0).toNat : Int) * 32) w (by unfold maxLen; omega)
  rw [sideOf_part _ hh] at cp
  have cr := fun w => readBox_any (str (sideOf d.data.toList)) (d.data.toList.getD 4 0).toNat w h4 (by rw [str_size]; exact hsl)
  rw [str_toList] at cr
  have cr2 : ∀ w, Calls Try.prog 95 #[.string (str (sideOf d.data.toList)), .int .i64 ((d.data.toList.getD 4 0).toNat : Int)] w fun e w' => (∃ ss aa nn cc gd, e = .returned (.tuple #[.agg #[.int .i64 ss.role, .int .i64 ss.step, .int .i64 ss.sent, .int .i64 ss.got, .int .i64 ss.prev, .int .i64 ss.skip, .int .i64 ss.cap, .string (str ss.root), .string (str ss.out), .string (str ss.inn), .int .i64 ss.secret, .int .i64 ss.peer, .slice aa nn cc], .bool gd]) ∧ ((heldOk d.data.toList ∧ ss = heldS d.data.toList ∧ w'.ownsRow w.heap.size 142 3 (.slice aa nn cc) ss.kept.length (entsCells ss.kept) ∧ gd = true) ∨ (¬ heldOk d.data.toList ∧ gd = false))) ∧ Below w.heap.size w w' := by
    intro w
    refine (cr w).mono ?_
    rintro e w' ⟨hq, hb⟩
    refine ⟨?_, hb⟩
    rcases hq with ⟨hq, v, he, hv⟩ | ⟨hq, ss, a, n, c, he⟩
    · obtain ⟨aa, nn, cc, hvv⟩ := owns_form hv; subst hvv; exact ⟨seenS (sideOf d.data.toList) (d.data.toList.getD 4 0).toNat, aa, nn, cc, true, he, .inl ⟨⟨hh, hq⟩, rfl, hv, rfl⟩⟩
    · exact ⟨ss, a, n, c, false, he, .inr ⟨fun x => hq x.2, rfl⟩⟩
  generalize str (sideOf d.data.toList) = sd at *
  generalize str (d.data.toList.take 32) = s0 at *
  generalize str (topL (d.data.toList.getD 4 0).toNat (d.data.toList.getD 5 0).toNat) = tp at *
  obtain ⟨M, hM⟩ : ∃ M, M = (d.data.toList.getD 5 0).toNat * (halfN (d.data.toList.getD 4 0).toNat * 32) := ⟨_, rfl⟩
  rw [← hM] at cp
  generalize (d.data.toList.getD 4 0).toNat = x4 at *
  generalize (d.data.toList.getD 5 0).toNat = x5 at *
  have t4I : ¬ (30 : Int) < (x4 : Int) := by omega
  have d4 : decide ((30 : Int) < (x4 : Int)) = false := decide_eq_false t4I
  have t5I : ¬ (1 : Int) < (x5 : Int) := by omega
  have d5 : decide ((1 : Int) < (x5 : Int)) = false := decide_eq_false t5I
  have tn : ¬ (k : Int) < ((1 + 2 * halfN x4 : Nat) : Int) := by omega
  have dn : decide ((k : Int) < ((1 + 2 * halfN x4 : Nat) : Int)) = false := decide_eq_false tn; obtain ⟨hh1, hh2, hh3⟩ := halfN_le x4 h4
  have hMI : (x5 : Int) * ((halfN x4 : Int) * 32) = (M : Int) := by rw [hM]; simp
  have hM2 : M ≤ 1000 := by
    rw [hM]; have : x5 = 0 ∨ x5 = 1 := by omega
    rcases this with e | e <;> rw [e] <;> omega
  have wm : wrap64 ((x5 : Int) * ((halfN x4 : Int) * 32)) = (M : Int) := by rw [hMI]; unfold wrap64; omega
  clear h hM hMI cr hsl hn hh
  generalize 1 + 2 * halfN x4 = nd at *
  generalize halfN x4 = hf at *
  go_enter Try.func79, Try.ntmps79
  go_upto_region 7 with (first | (go_at_call 63; with_reducible refine (c4 _).mono ?_; rintro e w' ⟨rfl, hw⟩; rw [hw]; clear hw w') | (go_at_call 59; refine (cs _).mono ?_; rintro e w' ⟨rfl, hw⟩; rw [hw]; clear hw w') | (go_at_call 73; refine (cn _).mono ?_; rintro e w' ⟨rfl, hw⟩; rw [hw]; clear hw w') | (go_at_call 78; with_reducible refine (c0 _).mono ?_; rintro e w' ⟨rfl, hw⟩; rw [hw]; clear hw w') | (go_at_call 84; refine (cf _).mono ?_; rintro e w1 ⟨rfl, hb1⟩) | (go_at_call 86; refine (cz _).mono ?_; rintro e w' ⟨rfl, hw⟩; rw [hw]; clear hw w'))
  have hA1 := (hb1.block w.heap.size (by simp)).trans (heap_alloc_new w _)
  have hlt1 : w.heap.size < w1.heap.size := by have := hb1.size; simp at this; omega
  have HA1 : Hid (w1.heap[w.heap.size]? = some (.cells zeroCells13 84)) := hA1; have HW : Hid (Below w.heap.size w w1) := below_tr ((Below.refl _ _).alloc (Nat.le_refl _) _) hb1; clear hA1 hb1
  go_wp2_with (first | (go_at_call 65; with_reducible refine (cp _).mono ?_; rintro e w' ⟨rfl, hw⟩; rw [hw]; clear hw w'))
  with_reducible refine (cr2 _).mono ?_
  rintro e w2 ⟨⟨ss, aa, nn, cc, gd, rfl, hcase⟩, hb2⟩
  have hA2 := (hb2.block w.heap.size hlt1).trans HA1.out; obtain ⟨a0, a1, a2, a3, a4, a5, a6, a7, a8, a9, a10, a11, a12⟩ := cells13 hA2
  have fA : ∀ j, w2.frozen? ⟨w.heap.size, j, none⟩ = false := fun j => frozen_of_row w2 _ j _ _ hA2
  have HC : Hid ((heldOk d.data.toList ∧ ss = heldS d.data.toList ∧ w2.ownsRow w1.heap.size 142 3 (.slice aa nn cc) ss.kept.length (entsCells ss.kept) ∧ gd = true) ∨ (¬ heldOk d.data.toList ∧ gd = false)) := hcase; clear hA2 hcase; go_wp2
  (try simp only [Exit.inBlock, Exit.then])
  refine bodyPost_ret (v := .tuple #[.agg (stCells ss (.slice aa nn cc)), .bool gd]) ?_ ?_ ?_
  · rw [results_cell_tmp (fn := Try.f79) rfl]; simp [go_sem, stCells, a0, a1, a2, a3, a4, a5, a6, a7, a8, a9, a10, a11, a12]
  · rfl
  · refine ⟨?_, ?_⟩
    · rcases HC.out with ⟨h1, h2, h3, h4⟩ | ⟨h1, h2⟩
      · subst h2 h4
        refine .inl ⟨h1, _, rfl, ?_⟩
        refine ownsRow_base (base := w.heap.size + 1) ?_ (Nat.le_succ _)
        repeat (with_reducible refine ownsRow_setCell_below ?_ (by exact Nat.lt_succ_self _) _)
        exact ownsRow_base h3 (by omega)
      · subst h2; exact .inr ⟨h1, _, _, _, _, rfl⟩
    · repeat (with_reducible refine Below.setCell ?_ (by exact Nat.le_refl _) _)
      exact below_tr HW.out hb2
theorem storeRead_any (d : ByteArray) (k : Nat) (w : World) (hk : d.size = k * 32) (hk1 : 1 ≤ k) (hk2 : k ≤ 40) :
    Calls Try.prog 79 #[.string d, .int .i64 ((d.data.toList.getD 5 0).toNat : Int)] w fun e w' => BoxOut d.data.toList w.heap.size w' e ∧ Below w.heap.size w w' := by
  by_cases h : ((d.data.toList.getD 4 0).toNat ≤ 30 ∧ (d.data.toList.getD 5 0).toNat ≤ 1) ∧ 1 + 2 * halfN (d.data.toList.getD 4 0).toNat ≤ k
  · by_cases ht : d.data.toList.take 32 = topL (d.data.toList.getD 4 0).toNat (d.data.toList.getD 5 0).toNat
    · exact storeRead_ok d k w hk hk1 hk2 h.1.1 h.1.2 h.2 ht
    · exact storeRead_top d k w hk hk1 hk2 h.1.1 h.1.2 h.2 ht
  · exact storeRead_early d k w hk hk1 hk2 h
end Go.Proofs.Ytabpkohcimiceab
