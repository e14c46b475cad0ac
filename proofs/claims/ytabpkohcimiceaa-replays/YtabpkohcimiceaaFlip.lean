import Derived.Test.YtabpkohcimiceaaSealM
namespace Go.Proofs.Ytabpkohcimiceaa
open Go.RowKit

/-! ### Stirring can be turned back -/
theorem r7_bit (x : W32) (i : Nat) (h : i < 32) : (r7 x).getLsbD ((i + 7) % 32) = x.getLsbD i := by
  unfold r7
  rw [BitVec.getLsbD_or, BitVec.getLsbD_shiftLeft, BitVec.getLsbD_ushiftRight]
  by_cases h' : i < 25
  · rw [show (i + 7) % 32 = i + 7 by omega, show i + 7 - 7 = i by omega, BitVec.getLsbD_of_ge x (25 + (i + 7)) (by omega)]
    simp; omega
  · rw [show (i + 7) % 32 = i - 25 by omega, show 25 + (i - 25) = i by omega]
    have : i - 25 < 7 := by omega
    simp [this]
theorem r13_bit (x : W32) (i : Nat) (h : i < 32) : (r13 x).getLsbD ((i + 13) % 32) = x.getLsbD i := by
  unfold r13
  rw [BitVec.getLsbD_or, BitVec.getLsbD_shiftLeft, BitVec.getLsbD_ushiftRight]
  by_cases h' : i < 19
  · rw [show (i + 13) % 32 = i + 13 by omega, show i + 13 - 13 = i by omega, BitVec.getLsbD_of_ge x (19 + (i + 13)) (by omega)]
    simp; omega
  · rw [show (i + 13) % 32 = i - 19 by omega, show 19 + (i - 19) = i by omega]
    have : i - 19 < 13 := by omega
    simp [this]
theorem r7_inj {x y : W32} (h : r7 x = r7 y) : x = y := by
  apply BitVec.eq_of_getLsbD_eq
  intro i hi
  rw [← r7_bit x i hi, ← r7_bit y i hi, h]
theorem r13_inj {x y : W32} (h : r13 x = r13 y) : x = y := by
  apply BitVec.eq_of_getLsbD_eq
  intro i hi
  rw [← r13_bit x i hi, ← r13_bit y i hi, h]
theorem xor_cancel_right {a b c : W32} (h : a ^^^ c = b ^^^ c) : a = b := by
  have := congrArg (· ^^^ c) h
  simpa [BitVec.xor_assoc] using this
theorem xor_cancel_left {a b c : W32} (h : c ^^^ a = c ^^^ b) : a = b := by
  rw [BitVec.xor_comm c a, BitVec.xor_comm c b] at h; exact xor_cancel_right h
theorem add_cancel_right {a b c : W32} (h : a + c = b + c) : a = b := by
  have := congrArg (· - c) h
  simpa using this
theorem rnd_inj (i : Nat) {p q : W32 × W32} (h : rnd i p = rnd i q) : p = q := by
  obtain ⟨p1, p2⟩ := p
  obtain ⟨q1, q2⟩ := q
  simp only [rnd, Prod.mk.injEq] at h
  obtain ⟨h1, h2⟩ := h
  generalize ha : p1 + p2 + BitVec.ofNat 32 i = a at h1 h2
  generalize hb : q1 + q2 + BitVec.ofNat 32 i = b at h1 h2
  rw [← h1] at h2
  have h3 := add_cancel_right h2
  rw [h3] at h1
  have h4 : a = b := r13_inj (xor_cancel_right h1)
  subst h4
  have h5 : p2 = q2 := r7_inj (xor_cancel_right h3)
  subst h5
  have h6 : p1 = q1 := by rw [← hb] at ha; exact add_cancel_right (add_cancel_right ha)
  rw [h6]
theorem rnds_inj : ∀ (k : Nat) {p q : W32 × W32}, rnds k p = rnds k q → p = q
  | 0, _, _, h => h
  | k + 1, _, _, h => rnds_inj k (rnd_inj (k + 1) h)
theorem stir_inj {p q : W32 × W32} (h : stir p = stir q) : p = q := rnds_inj 3 h
theorem absorb_inj (l : List UInt8) : ∀ {p q : W32 × W32}, absorb l p = absorb l q → p = q := by
  generalize hn : l.length = n
  induction n using Nat.strongRecOn generalizing l with
  | _ n ih =>
    intro p q h
    by_cases hl : l = []
    · subst hl; rwa [absorb_nil, absorb_nil] at h
    · rw [absorb_step l p hl, absorb_step l q hl] at h
      have hlen : (l.drop 4).length < n := by
        have : 0 < l.length := List.length_pos_iff.2 hl
        rw [List.length_drop]; omega
      have h1 := stir_inj (ih _ hlen (l.drop 4) rfl h)
      simp only [Prod.mk.injEq] at h1
      exact Prod.ext (xor_cancel_right h1.1) h1.2
theorem wn_inj : ∀ (k : Nat) (x y : List UInt8), wn k x = wn k y → ∀ j, j < k → x.getD j 0 = y.getD j 0
  | 0, _, _, _, j, hj => by omega
  | k + 1, x, y, h, j, hj => by
    have hx := (x.getD k 0).toNat_lt
    have hy := (y.getD k 0).toNat_lt
    simp only [wn] at h
    rcases Nat.lt_or_ge j k with hlt | hge
    · exact wn_inj k x y (by omega) j hlt
    · obtain rfl : j = k := by omega
      exact UInt8.toNat_inj.1 (by omega)
theorem wd_inj {x y : List UInt8} (h : wd x = wd y) : ∀ j, j < 4 → x.getD j 0 = y.getD j 0 :=
  wn_inj 4 x y (by rw [← wd_toNat, ← wd_toNat, h])

/-- Two texts that part in one byte never leave one state. -/
theorem absorb_flip (b : List UInt8) (c d : UInt8) (hcd : c ≠ d) : ∀ (a : List UInt8) (p : W32 × W32), absorb (a ++ c :: b) p ≠ absorb (a ++ d :: b) p := by
  intro a
  generalize hn : a.length = n
  induction n using Nat.strongRecOn generalizing a with
  | _ n ih =>
    intro p h
    rw [absorb_step (a ++ c :: b) p (by simp), absorb_step (a ++ d :: b) p (by simp)] at h
    by_cases h4 : 4 ≤ n
    · have e : ∀ e : UInt8, wd (a ++ e :: b) = wd a := by
        intro e
        rw [← wd_take, ← wd_take a, List.take_append_of_le_length (by omega)]
      rw [e, e, List.drop_append_of_le_length (by omega), List.drop_append_of_le_length (by omega)] at h
      exact ih (a.drop 4).length (by rw [List.length_drop]; omega) (a.drop 4) rfl _ h
    · have e : ∀ e : UInt8, (a ++ e :: b).drop 4 = b.drop (3 - n) := by
        intro e
        rw [List.drop_append, List.drop_eq_nil_of_le (by omega), List.nil_append, show 4 - a.length = (3 - n) + 1 by omega, List.drop_succ_cons]
      rw [e, e] at h
      have h1 := stir_inj (absorb_inj _ h)
      simp only [Prod.mk.injEq] at h1
      have h2 := wd_inj (xor_cancel_left h1.1) n (by omega)
      rw [List.getD_eq_getElem?_getD, List.getD_eq_getElem?_getD, List.getElem?_append_right (by omega), List.getElem?_append_right (by omega)] at h2
      simp [hn] at h2
      exact hcd h2
theorem four_inj {x y : W32} (h : four x = four y) : x = y := by
  simp only [four, List.cons.injEq, and_true] at h
  obtain ⟨h1, h2, h3, h4⟩ := h
  have f : ∀ m n : Nat, UInt8.ofNat m = UInt8.ofNat n → m % 256 = n % 256 := by
    intro m n e
    have := congrArg UInt8.toNat e
    simpa using this
  have g1 := f _ _ h1
  have g2 := f _ _ h2
  have g3 := f _ _ h3
  have g4 := f _ _ h4
  have := x.isLt
  have := y.isLt
  apply BitVec.eq_of_toNat_eq
  omega
theorem mixed_inj {key x y : List UInt8} (h : mixed key x = mixed key y) : mixW key x = mixW key y := by
  unfold mixed at h
  obtain ⟨h1, h2⟩ := List.append_inj h (by rw [four_length, four_length])
  exact Prod.ext (four_inj h1) (four_inj h2)
theorem mixed_flip (key a b : List UInt8) (c d : UInt8) (hcd : c ≠ d) : mixed key (a ++ c :: b) ≠ mixed key (a ++ d :: b) := by
  intro h
  have h1 := mixed_inj h
  simp only [mixW] at h1
  have h2 := stir_inj (stir_inj h1)
  simp only [Prod.mk.injEq] at h2
  have hl : (a ++ c :: b).length = (a ++ d :: b).length := by simp
  rw [hl] at h2
  exact absorb_flip b c d hcd a _ (Prod.ext h2.1 (xor_cancel_right h2.2))

/-! ### A sealed text with a byte turned does not open -/
theorem flip_at (l : List UInt8) (i : Nat) (d : UInt8) (h : i < l.length) : l.set i d = l.take i ++ d :: l.drop (i + 1) := by
  rw [List.set_eq_take_append_cons_drop, if_pos h]
theorem self_at (l : List UInt8) (i : Nat) (h : i < l.length) : l = l.take i ++ l.getD i 0 :: l.drop (i + 1) := by
  conv => lhs; rw [← List.set_getElem_self h]
  rw [flip_at _ _ _ h, getD_of_getElem l i h]
theorem mixed_set (key l : List UInt8) (i : Nat) (d : UInt8) (h : i < l.length) (hd : d ≠ l.getD i 0) : mixed key (l.set i d) ≠ mixed key l := by
  rw [flip_at l i d h]
  intro e
  have e2 := self_at l i h
  rw [e2] at e
  rw [← e2] at e
  have : mixed key (l.take i ++ d :: l.drop (i + 1)) = mixed key (l.take i ++ l.getD i 0 :: l.drop (i + 1)) := by rw [e, ← e2]
  exact mixed_flip key _ _ _ _ hd this
/-- The head and what is sealed, in one row; the byte at i is turned to another. -/
theorem flip_shut (key head text : List UInt8) (hh : head.length = 7) (i : Nat) (d : UInt8) (hi : i < (head ++ sealL key head text).length) (hd : d ≠ (head ++ sealL key head text).getD i 0) :
    ¬ opensL key (((head ++ sealL key head text).set i d).take 7) (((head ++ sealL key head text).set i d).drop 7) := by
  have hsl := sealL_length key head text
  rw [List.length_append, hh] at hi
  intro ho
  rw [opensL, List.length_drop, List.length_set, List.length_append, hh, hsl, show 7 + (text.length + 8) - 7 - 8 = text.length by omega] at ho
  have hv := veil_length key text
  rcases Nat.lt_or_ge i 7 with h7 | h7
  · -- in the head
    rw [List.set_append_left _ _ (by omega), List.take_left' (by rw [List.length_set]; exact hh), List.drop_left' (by rw [List.length_set]; exact hh)] at ho
    rw [sealL, List.drop_left' hv, List.take_left' hv] at ho
    rw [List.getD_eq_getElem?_getD, List.getElem?_append_left (by omega), ← List.getD_eq_getElem?_getD] at hd
    have := mixed_set key (116 :: (head ++ veil key text)) (i + 1) d (by simp; omega) (by
      rw [List.getD_cons_succ, List.getD_eq_getElem?_getD, List.getElem?_append_left (by omega), ← List.getD_eq_getElem?_getD]; exact hd)
    rw [List.set_cons_succ, List.set_append_left _ _ (by omega)] at this
    exact this ho.symm
  · rw [List.set_append_right _ _ (by omega), hh, List.take_left' hh, List.drop_left' hh] at ho
    rw [List.getD_eq_getElem?_getD, List.getElem?_append_right (by omega), hh, ← List.getD_eq_getElem?_getD] at hd
    rcases Nat.lt_or_ge (i - 7) text.length with hc | hc
    · -- in the cover
      rw [sealL, List.set_append_left _ _ (by omega), List.drop_left' (by rw [List.length_set]; exact hv), List.take_left' (by rw [List.length_set]; exact hv)] at ho
      rw [sealL, List.getD_eq_getElem?_getD, List.getElem?_append_left (by omega), ← List.getD_eq_getElem?_getD] at hd
      have := mixed_set key (116 :: (head ++ veil key text)) (i + 1) d (by simp; omega) (by
        rw [List.getD_cons_succ, List.getD_eq_getElem?_getD, List.getElem?_append_right (by omega), hh, ← List.getD_eq_getElem?_getD]; exact hd)
      rw [List.set_cons_succ, List.set_append_right _ _ (by omega), hh] at this
      exact this ho.symm
    · -- in the tag
      rw [sealL, List.set_append_right _ _ (by omega), List.drop_left' hv, List.take_left' hv, hv] at ho
      rw [sealL, List.getD_eq_getElem?_getD, List.getElem?_append_right (by omega), hv, ← List.getD_eq_getElem?_getD] at hd
      have hlt : i - 7 - text.length < (tagL key head (veil key text)).length := by rw [tagL_length]; omega
      have := congrArg (fun l => l.getD (i - 7 - text.length) 0) ho
      rw [List.getD_eq_getElem?_getD, List.getElem?_set_self hlt] at this
      exact hd this
end Go.Proofs.Ytabpkohcimiceaa
