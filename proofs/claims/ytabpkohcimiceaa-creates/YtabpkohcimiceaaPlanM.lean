import Derived.Test.YtabpkohcimiceaaTextC
import Derived.Test.YtabpkohcimiceaaBoxM
namespace Go.Proofs.Ytabpkohcimiceaa
open Go.RowKit

/-! ### Plans, on lists: what is left, as writes one after the other -/
theorem getD_app (a b : List UInt8) (j : Nat) : (a ++ b).getD j 0 = if j < a.length then a.getD j 0 else b.getD (j - a.length) 0 := by
  rw [List.getD_eq_getElem?_getD, List.getElem?_append]
  split <;> rw [List.getD_eq_getElem?_getD]
theorem getD_tk (a : List UInt8) (n j : Nat) : (a.take n).getD j 0 = if j < n then a.getD j 0 else 0 := by
  rw [List.getD_eq_getElem?_getD, List.getElem?_take]
  split
  · rw [List.getD_eq_getElem?_getD]
  · rfl
theorem getD_dp (a : List UInt8) (n j : Nat) : (a.drop n).getD j 0 = a.getD (n + j) 0 := by
  rw [List.getD_eq_getElem?_getD, List.getElem?_drop, List.getD_eq_getElem?_getD]
theorem getD_rep (n j : Nat) : (List.replicate n (0 : UInt8)).getD j 0 = 0 := by
  rw [List.getD_eq_getElem?_getD, List.getElem?_replicate]; split <;> rfl

theorem putL_length (d : List UInt8) (s : Nat) (b : List UInt8) (k : Nat) (hl : d.length = k * 32) (hs : s < k) (hb : b.length = 32) : (putL d s b).length = k * 32 := by
  rw [putL, List.length_append, List.length_append, List.length_take, List.length_drop]; omega
theorem putL_getD (d : List UInt8) (s : Nat) (b : List UInt8) (k : Nat) (hl : d.length = k * 32) (hs : s < k) (hb : b.length = 32) (j : Nat) :
    (putL d s b).getD j 0 = if s * 32 ≤ j ∧ j < s * 32 + 32 then b.getD (j - s * 32) 0 else d.getD j 0 := by
  have h1 : (d.take (s * 32)).length = s * 32 := by rw [List.length_take]; omega
  rw [putL, getD_app, List.length_append, h1, hb]
  by_cases h2 : j < s * 32 + 32
  · rw [if_pos h2, getD_app, h1]
    by_cases h3 : j < s * 32
    · rw [if_pos h3, if_neg (by omega), getD_tk, if_pos h3]
    · rw [if_neg h3, if_pos (by omega)]
  · rw [if_neg h2, if_neg (by omega), getD_dp]
    congr 1; omega
theorem secL_getD (x : List UInt8) (t j : Nat) (hj : j < 32) : (secL x t).getD j 0 = x.getD (t * 32 + j) 0 := by
  rw [secL, getD_tk, if_pos hj, getD_dp]
theorem secL_len (x : List UInt8) (t k : Nat) (hl : x.length = k * 32) (ht : t < k) : (secL x t).length = 32 := by
  rw [secL, List.length_take, List.length_drop]; omega
theorem secL_putL (d : List UInt8) (s : Nat) (b : List UInt8) (k t : Nat) (hl : d.length = k * 32) (hs : s < k) (hb : b.length = 32) (ht : t < k) :
    secL (putL d s b) t = if s = t then b else secL d t := by
  apply ext_getD
  · rw [secL_len _ t k (putL_length d s b k hl hs hb) ht]
    split
    · exact hb.symm
    · exact (secL_len d t k hl ht).symm
  · intro j hj
    rw [secL_len _ t k (putL_length d s b k hl hs hb) ht] at hj
    rw [secL_getD _ _ _ hj, putL_getD d s b k hl hs hb]
    by_cases h : s = t
    · subst h
      rw [if_pos (by omega), if_pos rfl]; congr 1; omega
    · rw [if_neg (by omega), if_neg h, secL_getD _ _ _ hj]
theorem take_sec (x : List UInt8) (s : Nat) : x.take ((s + 1) * 32) = x.take (s * 32) ++ secL x s := by
  rw [secL, show (s + 1) * 32 = s * 32 + 32 by omega, List.take_add]
theorem ext_sec (x y : List UInt8) (k : Nat) (hx : x.length = k * 32) (hy : y.length = k * 32) (h : ∀ t, t < k → secL x t = secL y t) : x = y := by
  have e : ∀ s, s ≤ k → x.take (s * 32) = y.take (s * 32) := by
    intro s
    induction s with
    | zero => intro _; simp
    | succ s ih => intro hs; rw [take_sec, take_sec, ih (by omega), h s (by omega)]
  have := e k (Nat.le_refl _)
  rwa [List.take_of_length_le (by omega), List.take_of_length_le (by omega)] at this

/-- A write goes to a sector that there is. -/
def RecM.fit (k : Nat) (r : RecM) : Prop := r.stop = false → r.to < k ∧ r.data.length = 32
theorem fit_of_ok {k : Nat} {l : List RecM} (h : ∀ r ∈ l, r.ok k) : ∀ r ∈ l, r.fit k := by
  intro r hr hs
  rcases h r hr with ⟨h1, _⟩ | ⟨_, h2, _, h3⟩
  · rw [hs] at h1; cases h1
  · exact ⟨h2, h3⟩
theorem fit_at {k : Nat} {l : List RecM} (h : ∀ r ∈ l, r.fit k) (i : Nat) (hi : i < l.length) : (l.getD i default).fit k := by
  rw [List.getD_eq_getElem?_getD, List.getElem?_eq_getElem hi]; exact h _ (List.getElem_mem hi)

def runF (d : List UInt8) (l : List RecM) (n : Nat) (keep : List UInt8) : Nat → List UInt8
  | 0 => d
  | i + 1 => if writtenL l i n keep = true then putL (runF d l n keep i) (l.getD i default).to (l.getD i default).data else runF d l n keep i
theorem written_not {l : List RecM} {i n : Nat} {keep : List UInt8} (h : writtenL l i n keep = true) : (l.getD i default).stop = false := by
  cases hs : (l.getD i default).stop with
  | false => rfl
  | true => rw [writtenL, hs] at h; cases h
theorem runF_length (d : List UInt8) (l : List RecM) (n k : Nat) (keep : List UInt8) (hd : d.length = k * 32) (hl : ∀ r ∈ l, r.fit k) : ∀ i, i ≤ l.length → (runF d l n keep i).length = k * 32
  | 0, _ => hd
  | i + 1, hi => by
    rw [runF]
    have ih := runF_length d l n k keep hd hl i (by omega)
    split
    · rename_i h
      obtain ⟨h1, h2⟩ := fit_at hl i (by omega) (written_not h)
      exact putL_length _ _ _ k ih h1 h2
    · exact ih
theorem runF_sec (d : List UInt8) (l : List RecM) (n k : Nat) (keep : List UInt8) (hd : d.length = k * 32) (hl : ∀ r ∈ l, r.fit k) (t : Nat) (ht : t < k) : ∀ i, i ≤ l.length → secL (runF d l n keep i) t = dataF d l n keep t i
  | 0, _ => rfl
  | i + 1, hi => by
    have ih := runF_sec d l n k keep hd hl t ht i (by omega)
    rw [runF, dataF]
    by_cases h : writtenL l i n keep = true
    · obtain ⟨h1, h2⟩ := fit_at hl i (by omega) (written_not h)
      rw [if_pos h, secL_putL _ _ _ k t (runF_length d l n k keep hd hl i (by omega)) h1 h2 ht]
      by_cases h3 : (l.getD i default).to = t
      · rw [if_pos h3, if_pos ⟨h3, h⟩]
      · rw [if_neg h3, if_neg (fun x => h3 x.1), ih]
    · rw [if_neg h, if_neg (fun x => h x.2), ih]
theorem leftL_run (d : List UInt8) (l : List RecM) (n k : Nat) (keep : List UInt8) (hd : d.length = k * 32) (hl : ∀ r ∈ l, r.fit k) (hn : n ≤ l.length) : leftL d l n keep = runF d l n keep n := by
  have e : ∀ s, s ≤ k → leftF d l n keep s = (runF d l n keep n).take (s * 32) := by
    intro s
    induction s with
    | zero => intro _; simp [leftF]
    | succ s ih => intro hs; rw [leftF, take_sec, ih (by omega), runF_sec d l n k keep hd hl s (by omega) n hn]
  rw [leftL, hd, show k * 32 / 32 = k by omega, e k (Nat.le_refl _), List.take_of_length_le (by rw [runF_length d l n k keep hd hl n hn]; omega)]

/-! ### All of a plan -/
def carryF (d : List UInt8) (l : List RecM) : Nat → List UInt8
  | 0 => d
  | i + 1 => if (l.getD i default).stop = true then carryF d l i else putL (carryF d l i) (l.getD i default).to (l.getD i default).data
theorem getD_left {α : Type} (a b : List α) (d : α) (i : Nat) (h : i < a.length) : (a ++ b).getD i d = a.getD i d := by
  rw [List.getD_eq_getElem?_getD, List.getElem?_append_left h, List.getD_eq_getElem?_getD]
theorem apply_run (d : List UInt8) (l : List RecM) (k : Nat) (hd : d.length = k * 32) (hl : ∀ r ∈ l, r.fit k) : leftL d (l ++ [⟨true, 0, []⟩]) (l.length + 1) [] = carryF d l l.length := by
  have hl' : ∀ r ∈ l ++ [(⟨true, 0, []⟩ : RecM)], r.fit k := by
    intro r hr
    rcases List.mem_append.1 hr with h | h
    · exact hl r h
    · rw [List.mem_singleton.1 h]; intro h; cases h
  have hlast : (l ++ [(⟨true, 0, []⟩ : RecM)]).getD l.length default = ⟨true, 0, []⟩ := by
    rw [List.getD_eq_getElem?_getD, List.getElem?_append_right (Nat.le_refl _)]; simp
  rw [leftL_run d _ _ k [] hd hl' (by simp)]
  have e : ∀ i, i ≤ l.length → runF d (l ++ [⟨true, 0, []⟩]) (l.length + 1) [] i = carryF d l i := by
    intro i
    induction i with
    | zero => intro _; rfl
    | succ i ih =>
      intro hi
      rw [runF, carryF, ih (by omega)]
      have hg := getD_left l [(⟨true, 0, []⟩ : RecM)] default i (by omega)
      have hst : stoppedL (l ++ [⟨true, 0, []⟩]) i (l.length + 1) = true := stoppedL_hit _ i l.length _ (by omega) (by omega) (by rw [hlast])
      rw [writtenL, hst, hg]
      cases (l.getD i default).stop <;> simp
  rw [runF, writtenL, hlast]
  simp only [Bool.not_true, Bool.false_and, Bool.false_eq_true, if_false]
  exact e _ (Nat.le_refl _)

/-! ### The last barrier -/
def lastL (l : List RecM) : Nat → Int
  | 0 => -1
  | n + 1 => if (l.getD n default).stop = true then (n : Int) else lastL l n
theorem lastL_lt (l : List RecM) : ∀ n, lastL l n < n ∧ -1 ≤ lastL l n
  | 0 => by simp [lastL]
  | n + 1 => by
    have := lastL_lt l n
    rw [lastL]; split <;> omega
theorem stopped_last (l : List RecM) (i : Nat) : ∀ n, stoppedL l i n = decide ((i : Int) < lastL l n)
  | 0 => by rw [lastL, decide_eq_false (by omega)]; rfl
  | n + 1 => by
    have ih := stopped_last l i n
    have hl := lastL_lt l n
    rw [stoppedL_succ, ih, lastL]
    by_cases h : (l.getD n default).stop = true
    · rw [if_pos h, h, Bool.and_true]
      by_cases h2 : i < n
      · rw [decide_eq_true h2, decide_eq_true (show (i : Int) < (n : Int) by omega), Bool.or_true]
      · rw [decide_eq_false h2, decide_eq_false (show ¬ (i : Int) < (n : Int) by omega), decide_eq_false (by omega)]; rfl
    · rw [if_neg h]
      have : (l.getD n default).stop = false := by cases hh : (l.getD n default).stop with | true => exact absurd hh h | false => rfl
      rw [this, Bool.and_false, Bool.or_false]

/-! ### Records as the program holds them -/
def devR (r : RecM) : RecM := if r.stop = true then ⟨true, 0, []⟩ else r
def devL (l : List RecM) : List RecM := l.map devR
theorem devL_length (l : List RecM) : (devL l).length = l.length := by simp [devL]
theorem devR_stop (r : RecM) : (devR r).stop = r.stop := by
  rw [devR]; split
  · rename_i h; exact h.symm
  · rfl
theorem devL_at (l : List RecM) (i : Nat) (h : i < l.length) : (devL l).getD i default = devR (l.getD i default) := by
  rw [List.getD_eq_getElem?_getD, devL, List.getElem?_map, List.getElem?_eq_getElem h, List.getD_eq_getElem?_getD, List.getElem?_eq_getElem h]; rfl
theorem devR_data {r : RecM} (h : r.stop = false) : devR r = r := by rw [devR, if_neg (by rw [h]; simp)]
end Go.Proofs.Ytabpkohcimiceaa
