import Derived.Test.YtabpkohcimiceaaRightC
import Derived.Test.YtabpkohcimiceaaRightL
namespace Go.Proofs.Ytabpkohcimiceaa
open Go.RowKit
set_option linter.unusedVariables false

/-! ### What is right is what is lawful -/
def stepAt (s : StM) (i : Nat) : Nat := (s.kept.getD i default).step
def SortedTo (s : StM) (n : Nat) : Prop := ∀ i, 0 < i → i < n → beforeL (s.kept.getD (i - 1) default) (s.kept.getD i default) = true
theorem before_le {a b : EntM} (h : beforeL a b = true) : a.step ≤ b.step := by
  simp only [beforeL, Bool.or_eq_true, Bool.and_eq_true, decide_eq_true_eq, beq_iff_eq] at h
  omega
theorem sorted_le (s : StM) : ∀ n, SortedTo s n → ∀ j, j < n → stepAt s j ≤ stepAt s (n - 1)
  | 0, _, j, hj => by omega
  | n + 1, h, j, hj => by
    show stepAt s j ≤ stepAt s n
    rcases Nat.lt_or_ge j n with h1 | h1
    · have ih := sorted_le s n (fun i h0 hi => h i h0 (by omega)) j h1
      have hb := before_le (h n (by omega) (by omega))
      exact Nat.le_trans ih hb
    · obtain rfl : j = n := by omega
      exact Nat.le_refl _
theorem ofL_zero (s : StM) (t : Nat) : ∀ n, n ≤ s.kept.length → (∀ j, j < n → stepAt s j ≠ t) → ofL (s.kept.take n) t = 0
  | 0, _, _ => rfl
  | n + 1, hn, h => by
    rw [ofL_take s.kept t n (by omega), ofL_zero s t n (by omega) (fun j hj => h j (by omega)), if_neg (show ¬ (s.kept.getD n default).step = t from h n (by omega))]
theorem run_of (s : StM) : ∀ n, n < s.kept.length → SortedTo s (n + 1) → runN s (n + 1) = ofL (s.kept.take (n + 1)) (stepAt s n)
  | 0, hn, _ => by
    rw [runN, ofL_take s.kept _ 0 hn, if_neg (by omega)]
    simp [stepAt, runN, ofL]
  | n + 1, hn, h => by
    have hs : SortedTo s (n + 1) := fun i h0 hi => h i h0 (by omega)
    have ih := run_of s n (by omega) hs
    rw [runN, ofL_take s.kept _ (n + 1) hn, if_pos (show (s.kept.getD (n + 1) default).step = stepAt s (n + 1) from rfl)]
    congr 1
    have hb := before_le (h (n + 1) (by omega) (by omega))
    simp only [Nat.add_sub_cancel] at hb ⊢
    by_cases he : stepAt s n = stepAt s (n + 1)
    · rw [if_neg (fun x => x.2 he), ih, he]
    · rw [if_pos ⟨by omega, he⟩, ofL_zero s _ (n + 1) (by omega)]
      intro j hj
      have := sorted_le s (n + 1) hs j hj
      simp only [Nat.add_sub_cancel] at this
      have hlt : stepAt s n < stepAt s (n + 1) := Nat.lt_of_le_of_ne hb he
      omega
theorem of_le_skip (s : StM) (t : Nat) (h : ∀ m, m < s.kept.length → ofL (s.kept.take (m + 1)) (stepAt s m) ≤ s.skip) : ∀ n, n ≤ s.kept.length → ofL (s.kept.take n) t ≤ s.skip
  | 0, _ => Nat.zero_le _
  | n + 1, hn => by
    by_cases he : stepAt s n = t
    · have := h n (by omega); rw [he] at this; exact this
    · rw [ofL_take s.kept t n (by omega), if_neg (show ¬ (s.kept.getD n default).step = t from he)]
      exact of_le_skip s t h n (by omega)
theorem of_mono (s : StM) (t : Nat) : ∀ n m, n ≤ m → m ≤ s.kept.length → ofL (s.kept.take n) t ≤ ofL (s.kept.take m) t
  | n, 0, h, _ => by obtain rfl : n = 0 := by omega
                     exact Nat.le_refl _
  | n, m + 1, h, hm => by
    rcases Nat.lt_or_ge n (m + 1) with h1 | h1
    · have := of_mono s t n m (by omega) (by omega)
      rw [ofL_take s.kept t m (by omega)]; omega
    · obtain rfl : n = m + 1 := by omega
      exact Nat.le_refl _

theorem rightF_iff (s : StM) : ∀ n, rightF s n = true ↔ ∀ i, i < n → KeyP s (s.kept.getD i default) ∧ (i = 0 ∨ beforeL (s.kept.getD (i - 1) default) (s.kept.getD i default) = true) ∧ runN s (i + 1) ≤ s.skip
  | 0 => by simp [rightF]
  | n + 1 => by
    rw [rightF]
    simp only [Bool.and_eq_true, Bool.or_eq_true, decide_eq_true_eq]
    rw [rightF_iff s n]
    constructor
    · rintro ⟨h1, h2⟩ i hi
      rcases Nat.lt_or_ge i n with h | h
      · exact h1 i h
      · obtain rfl : i = n := by omega
        exact h2
    · intro h
      exact ⟨fun i hi => h i (by omega), h n (by omega)⟩
theorem keysF_iff (s : StM) : ∀ n, keysF s n = true ↔ ∀ i, i < n → keyOk s i = true
  | 0 => by simp [keysF]
  | n + 1 => by
    rw [keysF, Bool.and_eq_true, keysF_iff s n]
    constructor
    · rintro ⟨h1, h2⟩ i hi
      rcases Nat.lt_or_ge i n with h | h
      · exact h1 i h
      · obtain rfl : i = n := by omega
        exact h2
    · intro h
      exact ⟨fun i hi => h i (by omega), h n (by omega)⟩
theorem keyOk_iff (s : StM) (i : Nat) : keyOk s i = true ↔ KeyP s (s.kept.getD i default) ∧ (i = 0 ∨ beforeL (s.kept.getD (i - 1) default) (s.kept.getD i default) = true) ∧ ofL s.kept (stepAt s i) ≤ s.skip := by
  simp only [keyOk, KeyP, stepAt, Bool.and_eq_true, Bool.not_eq_true', Bool.or_eq_false_iff, Bool.and_eq_false_iff, decide_eq_false_iff_not, decide_eq_true_eq, beq_eq_false_iff_ne, Bool.or_eq_true]
  generalize s.kept.getD i default = k
  generalize ofL s.kept k.step = q
  constructor
  · rintro ⟨⟨⟨⟨⟨⟨a, b⟩, c⟩, d⟩, e⟩, f⟩, g⟩
    refine ⟨⟨⟨by omega, by omega, by omega, by omega⟩, fun h => ?_⟩, g, by omega⟩
    rcases f with f | f
    · exact absurd h f
    · omega
  · rintro ⟨⟨⟨a, b, c, d⟩, e⟩, g, q⟩
    refine ⟨⟨⟨⟨⟨⟨by omega, by omega⟩, by omega⟩, by omega⟩, by omega⟩, ?_⟩, g⟩
    by_cases h : k.step + 1 = s.step
    · right; have := e h; omega
    · left; exact h
theorem right_keys (s : StM) : rightF s s.kept.length = keysF s s.kept.length := by
  rw [Bool.eq_iff_iff, rightF_iff, keysF_iff]
  constructor
  · intro h i hi
    rw [keyOk_iff]
    obtain ⟨h1, h2, h3⟩ := h i hi
    refine ⟨h1, h2, ?_⟩
    have hsort : ∀ n, n ≤ s.kept.length → SortedTo s n := by
      intro n hn j h0 hj
      rcases (h j (by omega)).2.1 with h | h
      · omega
      · exact h
    have := of_le_skip s (stepAt s i) (fun m hm => by rw [← run_of s m hm (hsort _ (by omega))]; exact (h m hm).2.2) s.kept.length (Nat.le_refl _)
    rwa [List.take_length] at this
  · intro h i hi
    have hi' := (keyOk_iff s i).1 (h i hi)
    obtain ⟨h1, h2, h3⟩ := hi'
    refine ⟨h1, h2, ?_⟩
    have hsort : SortedTo s (i + 1) := by
      intro j h0 hj
      rcases ((keyOk_iff s j).1 (h j (by omega))).2.1 with h | h
      · omega
      · exact h
    rw [run_of s i hi hsort]
    refine Nat.le_trans (of_mono s _ (i + 1) s.kept.length (by omega) (Nat.le_refl _)) ?_
    rw [List.take_length]; exact h3

def isRightB (s : StM) : Bool := decide (NumP s) && (decide (BegP s) && rightF s s.kept.length)
theorem right_lawful (s : StM) (hc : s.cap ≤ 30) (hk : s.kept.length ≤ s.cap) : isRightB s = lawfulL s := by
  rw [isRightB, lawfulL, keysL, right_keys, decide_eq_true hk, Bool.true_and, Bool.eq_iff_iff]
  simp only [Bool.and_eq_true, decide_eq_true_eq, lawA, lawB, lawC, lawD, lawE, lawF]
  unfold NumP BegP
  constructor
  · rintro ⟨⟨⟨a1, a2, a3⟩, b, c1, c2⟩, ⟨d1, d2, d3, d4⟩, k⟩
    refine ⟨⟨⟨⟨⟨⟨⟨a1, a2, by omega, c1, hc⟩, b⟩, c2, fun h => d2 (by omega)⟩, fun h => ?_⟩, d3⟩, d4⟩, k⟩
    obtain ⟨x, y, z⟩ := d1 h
    exact ⟨x, z, y⟩
  · rintro ⟨⟨⟨⟨⟨⟨⟨a1, a2, a3, a4, _⟩, b⟩, c1, c2⟩, d⟩, e⟩, f⟩, k⟩
    refine ⟨⟨⟨a1, a2, by omega⟩, b, a4, c1⟩, ⟨fun h => ?_, fun h => c2 (by omega), e, f⟩, k⟩
    obtain ⟨x, y, z⟩ := d h
    exact ⟨x, z, y⟩
end Go.Proofs.Ytabpkohcimiceaa
