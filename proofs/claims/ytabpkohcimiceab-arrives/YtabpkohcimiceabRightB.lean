import Derived.Test.YtabpkohcimiceabNew
import Derived.Test.YtabpkohcimiceabRightA
namespace Go.Proofs.Ytabpkohcimiceab
set_option maxRecDepth 100000
set_option maxHeartbeats 1000000
open Go.RowKit
set_option linter.unusedVariables false
def NumP (s : StM) : Prop := (s.role ≤ 1 ∧ s.step ≤ 30 ∧ s.step % 2 ≠ s.role) ∧ (s.sent ≤ 50 ∧ s.got ≤ 50 ∧ s.prev ≤ 50) ∧ s.skip ≤ 12 ∧ Sec s.secret
instance (s : StM) : Decidable (NumP s) := inferInstanceAs (Decidable (_ ∧ _))
theorem numbersRight_any (s : StM) (v : Value) (w : World) :
    Calls Try.prog 105 #[.agg (stCells s v)] w fun e w' => e = .returned (.bool (decide (NumP s))) ∧ Below w.heap.size w w' := by
  have hst := StAt.madeD w s v; have hbl : Below w.heap.size w (w.alloc (.cells (stCells s v) 84)) := (Below.refl _ _).alloc (Nat.le_refl _) _
  have cs := fun w => devIsSecret_any (s.secret : Int) w
  go_enter Try.func105, Try.ntmps105
  go_upto_region 1 with fail
  generalize w.alloc (.cells (stCells s v) 84) = wb at hst hbl ⊢
  obtain ⟨B, hB⟩ : ∃ B, B = w.heap.size := ⟨_, rfl⟩
  rw [← hB] at hst ⊢
  have HW := hid hbl; obtain ⟨lt, h0, h1, h2, h3, h4, h5, h6, h7, h8, h9, h10, h11, h12⟩ := hst; clear hB hbl h6 h7 h8 h9 h11 h12
  go_upto_region 3 with fail
  all_goals try (go_ret; exact ⟨by rw [decide_eq_false (fun h : NumP s => by obtain ⟨⟨q1, q2, q3⟩, _⟩ := h; first | omega | (simp only [beq_iff_eq] at *; omega))]; rfl, HW.out⟩)
  have HA : Hid (s.role ≤ 1 ∧ s.step ≤ 30 ∧ s.step % 2 ≠ s.role) := by
    show _ ∧ _
    first | omega | (simp only [beq_eq_false_iff_ne] at *; omega)
  go_upto_region 5 with fail
  all_goals try (go_ret; exact ⟨by rw [decide_eq_false (fun h : NumP s => by obtain ⟨_, ⟨q1, q2, q3⟩, _⟩ := h; omega)]; rfl, HW.out⟩)
  have HB : Hid (s.sent ≤ 50 ∧ s.got ≤ 50 ∧ s.prev ≤ 50) := by
    show _ ∧ _
    omega
  by_cases hsk : s.skip ≤ 12
  · have hskI : (s.skip : Int) ≤ 12 := by omega
    have e : decide (NumP s) = decide (Sec (s.secret : Int)) := by
      by_cases hh : Sec (s.secret : Int)
      · rw [decide_eq_true hh, decide_eq_true ⟨HA.out, HB.out, hsk, hh⟩]
      · rw [decide_eq_false hh, decide_eq_false (fun h : NumP s => hh h.2.2.2)]
    have HE : Hid (decide (NumP s) = decide (Sec (s.secret : Int))) := e; clear e
    go_wp2_with (first | (go_at_call 42; refine (cs _).mono ?_; rintro e w' ⟨rfl, hw⟩; rw [hw]; clear hw w'))
    go_ret
    exact ⟨by rw [HE.out]; rfl, HW.out⟩
  · have hskI : ¬ (s.skip : Int) ≤ 12 := by omega
    have hskd : decide ((s.skip : Int) ≤ 12) = false := decide_eq_false hskI
    have HE : Hid (decide (NumP s) = false) := decide_eq_false (fun h : NumP s => hsk h.2.2.1)
    go_wp2; go_ret
    exact ⟨by rw [HE.out]; rfl, HW.out⟩
def BegP (s : StM) : Prop := (s.step = 0 → s.sent = 0 ∧ s.out = noneL ∧ s.peer = 0) ∧ (s.step ≠ 0 → Pub s.peer) ∧ (s.step ≤ 1 → s.got = 0 ∧ s.inn = noneL) ∧ (s.step ≤ 2 → s.prev = 0)
instance (s : StM) : Decidable (BegP s) := inferInstanceAs (Decidable (_ ∧ _))
set_option maxHeartbeats 2000000 in
theorem beginRight_any (s : StM) (v : Value) (w : World) :
    Calls Try.prog 106 #[.agg (stCells s v)] w fun e w' => e = .returned (.bool (decide (BegP s))) ∧ Below w.heap.size w w' := by
  have hst := StAt.madeD w s v; have hbl : Below w.heap.size w (w.alloc (.cells (stCells s v) 84)) := (Below.refl _ _).alloc (Nat.le_refl _) _
  have cp := fun w => devIsPublic_any (s.peer : Int) w
  have hO := none_test s.out; have hI := none_test s.inn
  obtain ⟨P, hP⟩ : ∃ P, P = decide (BegP s) := ⟨_, rfl⟩
  rw [← hP]; have HP : Hid (P = decide (BegP s)) := hP; clear hP
  go_enter Try.func106, Try.ntmps106
  go_upto_region 1 with fail
  generalize w.alloc (.cells (stCells s v) 84) = wb at hst hbl ⊢
  obtain ⟨B, hB⟩ : ∃ B, B = w.heap.size := ⟨_, rfl⟩
  rw [← hB] at hst ⊢
  have HW := hid hbl; obtain ⟨lt, h0, h1, h2, h3, h4, h5, h6, h7, h8, h9, h10, h11, h12⟩ := hst; clear hB hbl h0 h5 h6 h7 h10 h12
  by_cases p0 : s.step = 0
  · have p0I : (s.step : Int) = 0 := by omega
    go_upto_region 6 with fail
    all_goals try (go_ret; exact ⟨by rw [HP.out, decide_eq_false (fun h : BegP s => by obtain ⟨q1, _⟩ := h; have := q1 p0; simp_all)]; rfl, HW.out⟩)
    go_upto_region 8 with fail
    all_goals try (go_ret; exact ⟨by rw [HP.out, decide_eq_false (fun h : BegP s => by obtain ⟨_, _, q1, _⟩ := h; have := q1 (by omega); simp_all)]; rfl, HW.out⟩)
    by_cases pp : s.prev = 0
    · have ppI : (s.prev : Int) = 0 := by omega
      have HE : Hid (P = true) := by
        show P = true
        rw [HP.out]
        exact decide_eq_true ⟨fun _ => by simp_all, fun h => absurd p0 h, fun _ => by simp_all, fun _ => pp⟩
      go_wp2; go_ret
      exact ⟨by rw [HE.out]; rfl, HW.out⟩
    · have ppI : ((s.prev : Int) == 0) = false := by rw [beq_eq_false_iff_ne]; omega
      have HE : Hid (P = false) := by
        show P = false
        rw [HP.out]
        exact decide_eq_false (fun h : BegP s => pp (h.2.2.2 (by omega)))
      go_wp2; go_ret
      exact ⟨by rw [HE.out]; rfl, HW.out⟩
  · have p0I : ((s.step : Int) == 0) = false := by rw [beq_eq_false_iff_ne]; omega
    by_cases hp : Pub (s.peer : Int)
    · rw [decide_eq_true hp] at cp
      by_cases p1 : s.step = 1
      · have p1I : (s.step : Int) = 1 := by omega
        go_upto_region 8 with (first | (go_at_call 87; refine (cp _).mono ?_; rintro e w' ⟨rfl, hw⟩; rw [hw]; clear hw w'))
        all_goals try (go_ret; exact ⟨by rw [HP.out, decide_eq_false (fun h : BegP s => by obtain ⟨_, _, q1, _⟩ := h; have := q1 (by omega); simp_all)]; rfl, HW.out⟩)
        by_cases pp : s.prev = 0
        · have ppI : (s.prev : Int) = 0 := by omega
          have HE : Hid (P = true) := by
            show P = true
            rw [HP.out]
            exact decide_eq_true ⟨fun h => absurd h p0, fun _ => hp, fun _ => by simp_all, fun _ => pp⟩
          go_wp2; go_ret
          exact ⟨by rw [HE.out]; rfl, HW.out⟩
        · have ppI : ((s.prev : Int) == 0) = false := by rw [beq_eq_false_iff_ne]; omega
          have HE : Hid (P = false) := by
            show P = false
            rw [HP.out]
            exact decide_eq_false (fun h : BegP s => pp (h.2.2.2 (by omega)))
          go_wp2; go_ret
          exact ⟨by rw [HE.out]; rfl, HW.out⟩
      · have p1I : decide ((s.step : Int) ≤ 1) = false := decide_eq_false (by omega)
        by_cases p2 : s.step = 2
        · have p2I : (s.step : Int) = 2 := by omega
          by_cases pp : s.prev = 0
          · have ppI : (s.prev : Int) = 0 := by omega
            have HE : Hid (P = true) := by
              show P = true
              rw [HP.out]
              exact decide_eq_true ⟨fun h => absurd h p0, fun _ => hp, fun h => by omega, fun _ => pp⟩
            go_wp2_with (first | (go_at_call 87; refine (cp _).mono ?_; rintro e w' ⟨rfl, hw⟩; rw [hw]; clear hw w'))
            go_ret
            exact ⟨by rw [HE.out]; rfl, HW.out⟩
          · have ppI : ((s.prev : Int) == 0) = false := by rw [beq_eq_false_iff_ne]; omega
            have HE : Hid (P = false) := by
              show P = false
              rw [HP.out]
              exact decide_eq_false (fun h : BegP s => pp (h.2.2.2 (by omega)))
            go_wp2_with (first | (go_at_call 87; refine (cp _).mono ?_; rintro e w' ⟨rfl, hw⟩; rw [hw]; clear hw w'))
            go_ret
            exact ⟨by rw [HE.out]; rfl, HW.out⟩
        · have p2I : (2 : Int) < (s.step : Int) := by omega
          have p2d : decide ((2 : Int) < (s.step : Int)) = true := decide_eq_true p2I
          have HE : Hid (P = true) := by
            show P = true
            rw [HP.out]
            exact decide_eq_true ⟨fun h => absurd h p0, fun _ => hp, fun h => by omega, fun h => by omega⟩
          go_wp2_with (first | (go_at_call 87; refine (cp _).mono ?_; rintro e w' ⟨rfl, hw⟩; rw [hw]; clear hw w'))
          go_ret
          exact ⟨by rw [HE.out]; rfl, HW.out⟩
    · rw [decide_eq_false hp] at cp
      have HE : Hid (P = false) := by
        show P = false
        rw [HP.out]
        exact decide_eq_false (fun h : BegP s => hp (h.2.1 p0))
      go_wp2_with (first | (go_at_call 87; refine (cp _).mono ?_; rintro e w' ⟨rfl, hw⟩; rw [hw]; clear hw w'))
      go_ret
      exact ⟨by rw [HE.out]; rfl, HW.out⟩
def stepAt (s : StM) (i : Nat) : Nat := (s.kept.getD i default).step
def SortedTo (s : StM) (n : Nat) : Prop := ∀ i, 0 < i → i < n → beforeL (s.kept.getD (i - 1) default) (s.kept.getD i default) = true
theorem before_le {a b : EntM} (h : beforeL a b = true) : a.step ≤ b.step := by
  simp only [beforeL, Bool.or_eq_true, Bool.and_eq_true, decide_eq_true_eq, beq_iff_eq] at h
  omega
theorem sorted_le (s : StM) : ∀ n, SortedTo s n → ∀ j, j < n → stepAt s j ≤ stepAt s (n - 1)
  | 0, _, j, hj => by omega
  | n + 1, h, j, hj => by
    show stepAt s j ≤ stepAt s n
    rcases Nat.lt_or_ge j n with h1 | h1
    · have ih := sorted_le s n (fun i h0 hi => h i h0 (by omega)) j h1
      have hb := before_le (h n (by omega) (by omega))
      exact Nat.le_trans ih hb
    · obtain rfl : j = n := by omega
      exact Nat.le_refl _
theorem ofL_zero (s : StM) (t : Nat) : ∀ n, n ≤ s.kept.length → (∀ j, j < n → stepAt s j ≠ t) → ofL (s.kept.take n) t = 0
  | 0, _, _ => rfl
  | n + 1, hn, h => by
    rw [ofL_take s.kept t n (by omega), ofL_zero s t n (by omega) (fun j hj => h j (by omega)), if_neg (show ¬ (s.kept.getD n default).step = t from h n (by omega))]
theorem run_of (s : StM) : ∀ n, n < s.kept.length → SortedTo s (n + 1) → runN s (n + 1) = ofL (s.kept.take (n + 1)) (stepAt s n)
  | 0, hn, _ => by
    rw [runN, ofL_take s.kept _ 0 hn, if_neg (by omega)]
    simp [stepAt, runN, ofL]
  | n + 1, hn, h => by
    have hs : SortedTo s (n + 1) := fun i h0 hi => h i h0 (by omega)
    have ih := run_of s n (by omega) hs
    rw [runN, ofL_take s.kept _ (n + 1) hn, if_pos (show (s.kept.getD (n + 1) default).step = stepAt s (n + 1) from rfl)]
    congr 1
    have hb := before_le (h (n + 1) (by omega) (by omega))
    simp only [Nat.add_sub_cancel] at hb ⊢
    by_cases he : stepAt s n = stepAt s (n + 1)
    · rw [if_neg (fun x => x.2 he), ih, he]
    · rw [if_pos ⟨by omega, he⟩, ofL_zero s _ (n + 1) (by omega)]
      intro j hj
      have := sorted_le s (n + 1) hs j hj
      simp only [Nat.add_sub_cancel] at this
      have hlt : stepAt s n < stepAt s (n + 1) := Nat.lt_of_le_of_ne hb he
      omega
theorem of_le_skip (s : StM) (t : Nat) (h : ∀ m, m < s.kept.length → ofL (s.kept.take (m + 1)) (stepAt s m) ≤ s.skip) : ∀ n, n ≤ s.kept.length → ofL (s.kept.take n) t ≤ s.skip
  | 0, _ => Nat.zero_le _
  | n + 1, hn => by
    by_cases he : stepAt s n = t
    · have := h n (by omega); rw [he] at this; exact this
    · rw [ofL_take s.kept t n (by omega), if_neg (show ¬ (s.kept.getD n default).step = t from he)]
      exact of_le_skip s t h n (by omega)
theorem of_mono (s : StM) (t : Nat) : ∀ n m, n ≤ m → m ≤ s.kept.length → ofL (s.kept.take n) t ≤ ofL (s.kept.take m) t
  | n, 0, h, _ => by obtain rfl : n = 0 := by omega
                     exact Nat.le_refl _
  | n, m + 1, h, hm => by
    rcases Nat.lt_or_ge n (m + 1) with h1 | h1
    · have := of_mono s t n m (by omega) (by omega)
      rw [ofL_take s.kept t m (by omega)]; omega
    · obtain rfl : n = m + 1 := by omega
      exact Nat.le_refl _
theorem rightF_iff (s : StM) : ∀ n, rightF s n = true ↔ ∀ i, i < n → KeyP s (s.kept.getD i default) ∧ (i = 0 ∨ beforeL (s.kept.getD (i - 1) default) (s.kept.getD i default) = true) ∧ runN s (i + 1) ≤ s.skip
  | 0 => by simp [rightF]
  | n + 1 => by
    rw [rightF]
    simp only [Bool.and_eq_true, Bool.or_eq_true, decide_eq_true_eq]
    rw [rightF_iff s n]
    constructor
    · rintro ⟨h1, h2⟩ i hi
      rcases Nat.lt_or_ge i n with h | h
      · exact h1 i h
      · obtain rfl : i = n := by omega
        exact h2
    · intro h
      exact ⟨fun i hi => h i (by omega), h n (by omega)⟩
theorem keysF_iff (s : StM) : ∀ n, keysF s n = true ↔ ∀ i, i < n → keyOk s i = true
  | 0 => by simp [keysF]
  | n + 1 => by
    rw [keysF, Bool.and_eq_true, keysF_iff s n]
    constructor
    · rintro ⟨h1, h2⟩ i hi
      rcases Nat.lt_or_ge i n with h | h
      · exact h1 i h
      · obtain rfl : i = n := by omega
        exact h2
    · intro h
      exact ⟨fun i hi => h i (by omega), h n (by omega)⟩
theorem keyOk_iff (s : StM) (i : Nat) : keyOk s i = true ↔ KeyP s (s.kept.getD i default) ∧ (i = 0 ∨ beforeL (s.kept.getD (i - 1) default) (s.kept.getD i default) = true) ∧ ofL s.kept (stepAt s i) ≤ s.skip := by
  simp only [keyOk, KeyP, stepAt, Bool.and_eq_true, Bool.not_eq_true', Bool.or_eq_false_iff, Bool.and_eq_false_iff, decide_eq_false_iff_not, decide_eq_true_eq, beq_eq_false_iff_ne, Bool.or_eq_true]
  generalize s.kept.getD i default = k
  generalize ofL s.kept k.step = q
  constructor
  · rintro ⟨⟨⟨⟨⟨⟨a, b⟩, c⟩, d⟩, e⟩, f⟩, g⟩
    refine ⟨⟨⟨by omega, by omega, by omega, by omega⟩, fun h => ?_⟩, g, by omega⟩
    rcases f with f | f
    · exact absurd h f
    · omega
  · rintro ⟨⟨⟨a, b, c, d⟩, e⟩, g, q⟩
    refine ⟨⟨⟨⟨⟨⟨by omega, by omega⟩, by omega⟩, by omega⟩, by omega⟩, ?_⟩, g⟩
    by_cases h : k.step + 1 = s.step
    · right; have := e h; omega
    · left; exact h
theorem right_keys (s : StM) : rightF s s.kept.length = keysF s s.kept.length := by
  rw [Bool.eq_iff_iff, rightF_iff, keysF_iff]
  constructor
  · intro h i hi
    rw [keyOk_iff]; obtain ⟨h1, h2, h3⟩ := h i hi
    refine ⟨h1, h2, ?_⟩
    have hsort : ∀ n, n ≤ s.kept.length → SortedTo s n := by
      intro n hn j h0 hj
      rcases (h j (by omega)).2.1 with h | h
      · omega
      · exact h
    have := of_le_skip s (stepAt s i) (fun m hm => by rw [← run_of s m hm (hsort _ (by omega))]; exact (h m hm).2.2) s.kept.length (Nat.le_refl _)
    rwa [List.take_length] at this
  · intro h i hi
    have hi' := (keyOk_iff s i).1 (h i hi); obtain ⟨h1, h2, h3⟩ := hi'
    refine ⟨h1, h2, ?_⟩
    have hsort : SortedTo s (i + 1) := by
      intro j h0 hj
      rcases ((keyOk_iff s j).1 (h j (by omega))).2.1 with h | h
      · omega
      · exact h
    rw [run_of s i hi hsort]
    refine Nat.le_trans (of_mono s _ (i + 1) s.kept.length (by omega) (Nat.le_refl _)) ?_
    rw [List.take_length]; exact h3
def isRightB (s : StM) : Bool := decide (NumP s) && (decide (BegP s) && rightF s s.kept.length)
theorem right_lawful (s : StM) (hc : s.cap ≤ 30) (hk : s.kept.length ≤ s.cap) : isRightB s = lawfulL s := by
  rw [isRightB, lawfulL, keysL, right_keys, decide_eq_true hk, Bool.true_and, Bool.eq_iff_iff]
  simp only [Bool.and_eq_true, decide_eq_true_eq, lawA, lawB, lawC, lawD, lawE, lawF]
  unfold NumP BegP
  constructor
  · rintro ⟨⟨⟨a1, a2, a3⟩, b, c1, c2⟩, ⟨d1, d2, d3, d4⟩, k⟩
    refine ⟨⟨⟨⟨⟨⟨⟨a1, a2, by omega, c1, hc⟩, b⟩, c2, fun h => d2 (by omega)⟩, fun h => ?_⟩, d3⟩, d4⟩, k⟩
    obtain ⟨x, y, z⟩ := d1 h; exact ⟨x, z, y⟩
  · rintro ⟨⟨⟨⟨⟨⟨⟨a1, a2, a3, a4, _⟩, b⟩, c1, c2⟩, d⟩, e⟩, f⟩, k⟩
    refine ⟨⟨⟨a1, a2, by omega⟩, b, a4, c1⟩, ⟨fun h => ?_, fun h => c2 (by omega), e, f⟩, k⟩
    obtain ⟨x, y, z⟩ := d h; exact ⟨x, z, y⟩
end Go.Proofs.Ytabpkohcimiceab
