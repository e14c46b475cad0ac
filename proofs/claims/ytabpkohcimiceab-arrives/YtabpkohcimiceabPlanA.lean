import Derived.Test.YtabpkohcimiceabTextA
import Derived.Deep.AppendSrc
import Derived.Deep.MidRow
namespace Go.Proofs.Ytabpkohcimiceab
set_option maxRecDepth 100000
set_option maxHeartbeats 1000000
open Go.RowKit
theorem getD_app (a b : List UInt8) (j : Nat) : (a ++ b).getD j 0 = if j < a.length then a.getD j 0 else b.getD (j - a.length) 0 := by
  rw [List.getD_eq_getElem?_getD, List.getElem?_append]
  split <;> rw [List.getD_eq_getElem?_getD]
theorem getD_tk (a : List UInt8) (n j : Nat) : (a.take n).getD j 0 = if j < n then a.getD j 0 else 0 := by
  rw [List.getD_eq_getElem?_getD, List.getElem?_take]
  split
  · rw [List.getD_eq_getElem?_getD]
  · rfl
theorem getD_dp (a : List UInt8) (n j : Nat) : (a.drop n).getD j 0 = a.getD (n + j) 0 := by
  rw [List.getD_eq_getElem?_getD, List.getElem?_drop, List.getD_eq_getElem?_getD]
theorem getD_rep (n j : Nat) : (List.replicate n (0 : UInt8)).getD j 0 = 0 := by
  rw [List.getD_eq_getElem?_getD, List.getElem?_replicate]; split <;> rfl
theorem putL_length (d : List UInt8) (s : Nat) (b : List UInt8) (k : Nat) (hl : d.length = k * 32) (hs : s < k) (hb : b.length = 32) : (putL d s b).length = k * 32 := by
  rw [putL, List.length_append, List.length_append, List.length_take, List.length_drop]; omega
theorem putL_getD (d : List UInt8) (s : Nat) (b : List UInt8) (k : Nat) (hl : d.length = k * 32) (hs : s < k) (hb : b.length = 32) (j : Nat) :
    (putL d s b).getD j 0 = if s * 32 ≤ j ∧ j < s * 32 + 32 then b.getD (j - s * 32) 0 else d.getD j 0 := by
  have h1 : (d.take (s * 32)).length = s * 32 := by rw [List.length_take]; omega
  rw [putL, getD_app, List.length_append, h1, hb]
  by_cases h2 : j < s * 32 + 32
  · rw [if_pos h2, getD_app, h1]
    by_cases h3 : j < s * 32
    · rw [if_pos h3, if_neg (by omega), getD_tk, if_pos h3]
    · rw [if_neg h3, if_pos (by omega)]
  · rw [if_neg h2, if_neg (by omega), getD_dp]
    congr 1; omega
theorem secL_getD (x : List UInt8) (t j : Nat) (hj : j < 32) : (secL x t).getD j 0 = x.getD (t * 32 + j) 0 := by
  rw [secL, getD_tk, if_pos hj, getD_dp]
theorem secL_len (x : List UInt8) (t k : Nat) (hl : x.length = k * 32) (ht : t < k) : (secL x t).length = 32 := by
  rw [secL, List.length_take, List.length_drop]; omega
theorem secL_putL (d : List UInt8) (s : Nat) (b : List UInt8) (k t : Nat) (hl : d.length = k * 32) (hs : s < k) (hb : b.length = 32) (ht : t < k) :
    secL (putL d s b) t = if s = t then b else secL d t := by
  apply ext_getD
  · rw [secL_len _ t k (putL_length d s b k hl hs hb) ht]
    split
    · exact hb.symm
    · exact (secL_len d t k hl ht).symm
  · intro j hj
    rw [secL_len _ t k (putL_length d s b k hl hs hb) ht] at hj
    rw [secL_getD _ _ _ hj, putL_getD d s b k hl hs hb]
    by_cases h : s = t
    · subst h
      rw [if_pos (by omega), if_pos rfl]; congr 1; omega
    · rw [if_neg (by omega), if_neg h, secL_getD _ _ _ hj]
theorem take_sec (x : List UInt8) (s : Nat) : x.take ((s + 1) * 32) = x.take (s * 32) ++ secL x s := by
  rw [secL, show (s + 1) * 32 = s * 32 + 32 by omega, List.take_add]
theorem ext_sec (x y : List UInt8) (k : Nat) (hx : x.length = k * 32) (hy : y.length = k * 32) (h : ∀ t, t < k → secL x t = secL y t) : x = y := by
  have e : ∀ s, s ≤ k → x.take (s * 32) = y.take (s * 32) := by
    intro s
    induction s with
    | zero => intro _; simp
    | succ s ih => intro hs; rw [take_sec, take_sec, ih (by omega), h s (by omega)]
  have := e k (Nat.le_refl _)
  rwa [List.take_of_length_le (by omega), List.take_of_length_le (by omega)] at this
def RecM.fit (k : Nat) (r : RecM) : Prop := r.stop = false → r.to < k ∧ r.data.length = 32
theorem fit_of_ok {k : Nat} {l : List RecM} (h : ∀ r ∈ l, r.ok k) : ∀ r ∈ l, r.fit k := by
  intro r hr hs
  rcases h r hr with ⟨h1, _⟩ | ⟨_, h2, _, h3⟩
  · rw [hs] at h1; cases h1
  · exact ⟨h2, h3⟩
theorem fit_at {k : Nat} {l : List RecM} (h : ∀ r ∈ l, r.fit k) (i : Nat) (hi : i < l.length) : (l.getD i default).fit k := by
  rw [List.getD_eq_getElem?_getD, List.getElem?_eq_getElem hi]; exact h _ (List.getElem_mem hi)
def runF (d : List UInt8) (l : List RecM) (n : Nat) (keep : List UInt8) : Nat → List UInt8
  | 0 => d
  | i + 1 => if writtenL l i n keep = true then putL (runF d l n keep i) (l.getD i default).to (l.getD i default).data else runF d l n keep i
theorem written_not {l : List RecM} {i n : Nat} {keep : List UInt8} (h : writtenL l i n keep = true) : (l.getD i default).stop = false := by
  cases hs : (l.getD i default).stop with
  | false => rfl
  | true => rw [writtenL, hs] at h; cases h
theorem runF_length (d : List UInt8) (l : List RecM) (n k : Nat) (keep : List UInt8) (hd : d.length = k * 32) (hl : ∀ r ∈ l, r.fit k) : ∀ i, i ≤ l.length → (runF d l n keep i).length = k * 32
  | 0, _ => hd
  | i + 1, hi => by
    rw [runF]
    have ih := runF_length d l n k keep hd hl i (by omega)
    split
    · rename_i h
      obtain ⟨h1, h2⟩ := fit_at hl i (by omega) (written_not h)
      exact putL_length _ _ _ k ih h1 h2
    · exact ih
theorem runF_sec (d : List UInt8) (l : List RecM) (n k : Nat) (keep : List UInt8) (hd : d.length = k * 32) (hl : ∀ r ∈ l, r.fit k) (t : Nat) (ht : t < k) : ∀ i, i ≤ l.length → secL (runF d l n keep i) t = dataF d l n keep t i
  | 0, _ => rfl
  | i + 1, hi => by
    have ih := runF_sec d l n k keep hd hl t ht i (by omega)
    rw [runF, dataF]
    by_cases h : writtenL l i n keep = true
    · obtain ⟨h1, h2⟩ := fit_at hl i (by omega) (written_not h)
      rw [if_pos h, secL_putL _ _ _ k t (runF_length d l n k keep hd hl i (by omega)) h1 h2 ht]
      by_cases h3 : (l.getD i default).to = t
      · rw [if_pos h3, if_pos ⟨h3, h⟩]
      · rw [if_neg h3, if_neg (fun x => h3 x.1), ih]
    · rw [if_neg h, if_neg (fun x => h x.2), ih]
theorem leftL_run (d : List UInt8) (l : List RecM) (n k : Nat) (keep : List UInt8) (hd : d.length = k * 32) (hl : ∀ r ∈ l, r.fit k) (hn : n ≤ l.length) : leftL d l n keep = runF d l n keep n := by
  have e : ∀ s, s ≤ k → leftF d l n keep s = (runF d l n keep n).take (s * 32) := by
    intro s
    induction s with
    | zero => intro _; simp [leftF]
    | succ s ih => intro hs; rw [leftF, take_sec, ih (by omega), runF_sec d l n k keep hd hl s (by omega) n hn]
  rw [leftL, hd, show k * 32 / 32 = k by omega, e k (Nat.le_refl _), List.take_of_length_le (by rw [runF_length d l n k keep hd hl n hn]; omega)]
theorem getD_left {α : Type} (a b : List α) (d : α) (i : Nat) (h : i < a.length) : (a ++ b).getD i d = a.getD i d := by
  rw [List.getD_eq_getElem?_getD, List.getElem?_append_left h, List.getD_eq_getElem?_getD]
def devR (r : RecM) : RecM := if r.stop = true then ⟨true, 0, []⟩ else r
def devL (l : List RecM) : List RecM := l.map devR
theorem devL_length (l : List RecM) : (devL l).length = l.length := by simp [devL]
theorem devL_at (l : List RecM) (i : Nat) (h : i < l.length) : (devL l).getD i default = devR (l.getD i default) := by
  rw [List.getD_eq_getElem?_getD, devL, List.getElem?_map, List.getElem?_eq_getElem h, List.getD_eq_getElem?_getD, List.getElem?_eq_getElem h]; rfl
def chgB (a b : List UInt8) (lo : Nat) : Nat → List UInt8
  | 0 => []
  | m + 1 => chgB a b lo m ++ (if secL a (lo + m) = secL b (lo + m) then [] else UInt8.ofNat (lo + m) :: secL b (lo + m))
def changesL (a b : List UInt8) (lo hi : Nat) : List UInt8 := if chgB a b lo (hi - lo) = [] then [] else chgB a b lo (hi - lo) ++ [255]
def chgR (a b : List UInt8) (lo : Nat) : Nat → List RecM
  | 0 => []
  | m + 1 => chgR a b lo m ++ (if secL a (lo + m) = secL b (lo + m) then [] else [⟨false, lo + m, secL b (lo + m)⟩])
def changesR (a b : List UInt8) (lo hi : Nat) : List RecM := if chgR a b lo (hi - lo) = [] then [] else chgR a b lo (hi - lo) ++ [⟨true, 255, []⟩]
def encR (r : RecM) : List UInt8 := if r.stop = true then [255] else UInt8.ofNat r.to :: r.data
def encL : List RecM → List UInt8
  | [] => []
  | r :: l => encR r ++ encL l
theorem encL_append (a b : List RecM) : encL (a ++ b) = encL a ++ encL b := by
  induction a with
  | nil => rfl
  | cons r a ih => rw [List.cons_append, encL, encL, ih, List.append_assoc]
theorem chgB_enc (a b : List UInt8) (lo : Nat) : ∀ m, chgB a b lo m = encL (chgR a b lo m)
  | 0 => rfl
  | m + 1 => by
    rw [chgB, chgR, encL_append, chgB_enc a b lo m]
    by_cases h : secL a (lo + m) = secL b (lo + m)
    · rw [if_pos h, if_pos h]; rfl
    · rw [if_neg h, if_neg h]; simp [encL, encR]
theorem encL_nil (l : List RecM) : encL l = [] ↔ l = [] := by
  cases l with
  | nil => simp [encL]
  | cons r l =>
    simp only [encL, encR]
    split <;> simp
theorem changesL_enc (a b : List UInt8) (lo hi : Nat) : changesL a b lo hi = encL (changesR a b lo hi) := by
  rw [changesL, changesR, chgB_enc]
  by_cases h : chgR a b lo (hi - lo) = []
  · rw [if_pos ((encL_nil _).2 h), if_pos h]; rfl
  · rw [if_neg (fun x => h ((encL_nil _).1 x)), if_neg h, encL_append]; simp [encL, encR]
theorem recsF_enc (n : Nat) : ∀ (l : List RecM) (k : Nat), (∀ r ∈ l, r.ok n) → l.length ≤ k → recsF n k (encL l) = some l
  | [], k, _, _ => by cases k <;> rfl
  | r :: l, 0, _, h => by simp at h
  | r :: l, k + 1, hr, h => by
    have ih := recsF_enc n l k (fun x hx => hr x (List.mem_cons_of_mem _ hx)) (by simpa using h)
    rcases hr r (List.mem_cons_self ..) with ⟨h1, h2, h3⟩ | ⟨h1, h2, h3, h4⟩
    · rw [encL, encR, if_pos h1]
      show recsF n (k + 1) (255 :: encL l) = _
      rw [recsF, if_pos rfl, ih]; obtain ⟨s, t, d⟩ := r
      simp only at h1 h2 h3
      subst h1 h2 h3
      rfl
    · rw [encL, encR, if_neg (by rw [h1]; simp)]
      show recsF n (k + 1) (UInt8.ofNat r.to :: (r.data ++ encL l)) = _
      have e : (UInt8.ofNat r.to).toNat = r.to := by rw [UInt8.toNat_ofNat']; omega
      have e2 : UInt8.ofNat r.to ≠ 255 := by
        intro x
        have := congrArg UInt8.toNat x
        rw [e] at this
        have h255 : (255 : UInt8).toNat = 255 := rfl
        omega
      rw [recsF, if_neg e2, if_neg (by rw [e, List.length_append]; omega), e, List.take_left' h4, List.drop_left' h4, ih]
      obtain ⟨s, t, d⟩ := r
      simp only at h1
      subst h1
      rfl
theorem chgR_mem (a b : List UInt8) (lo : Nat) : ∀ m r, r ∈ chgR a b lo m → r.stop = false ∧ lo ≤ r.to ∧ r.to < lo + m ∧ r.data = secL b r.to
  | 0, r, h => by simp [chgR] at h
  | m + 1, r, h => by
    rw [chgR] at h
    rcases List.mem_append.1 h with h | h
    · obtain ⟨h1, h2, h3, h4⟩ := chgR_mem a b lo m r h
      exact ⟨h1, h2, by omega, h4⟩
    · by_cases hh : secL a (lo + m) = secL b (lo + m)
      · rw [if_pos hh] at h; simp at h
      · rw [if_neg hh] at h
        rw [List.mem_singleton.1 h]
        exact ⟨rfl, by show lo ≤ lo + m; omega, by show lo + m < lo + (m + 1); omega, rfl⟩
theorem chgR_has (a b : List UInt8) (lo t : Nat) : ∀ m, lo ≤ t → t < lo + m → secL a t ≠ secL b t → ⟨false, t, secL b t⟩ ∈ chgR a b lo m
  | 0, h1, h2, _ => by omega
  | m + 1, h1, h2, h3 => by
    rw [chgR]
    by_cases h : t = lo + m
    · subst h; rw [if_neg h3]; exact List.mem_append_right _ (List.mem_singleton.2 rfl)
    · exact List.mem_append_left _ (chgR_has a b lo t m h1 (by omega) h3)
theorem chgR_length (a b : List UInt8) (lo : Nat) : ∀ m, (chgR a b lo m).length ≤ m
  | 0 => Nat.le_refl _
  | m + 1 => by
    rw [chgR, List.length_append]
    have := chgR_length a b lo m
    split <;> simp <;> omega
def Brings (x : List UInt8) (l : List RecM) : Prop := ∀ r ∈ l, r.stop = false → r.data = secL x r.to
theorem brings_at {x : List UInt8} {l : List RecM} (h : Brings x l) (i : Nat) (hi : i < l.length) (hs : (l.getD i default).stop = false) : (l.getD i default).data = secL x (l.getD i default).to := by
  have hm : l.getD i default ∈ l := by rw [List.getD_eq_getElem?_getD, List.getElem?_eq_getElem hi]; exact List.getElem_mem hi
  exact h _ hm hs
theorem dataF_or (d x : List UInt8) (l : List RecM) (n : Nat) (keep : List UInt8) (t : Nat) (hx : Brings x l) : ∀ i, i ≤ l.length →
    (dataF d l n keep t i = secL x t) ∨ (dataF d l n keep t i = secL d t ∧ ∀ j, j < i → ¬ ((l.getD j default).to = t ∧ writtenL l j n keep = true))
  | 0, _ => .inr ⟨rfl, fun j h => absurd h (Nat.not_lt_zero _)⟩
  | i + 1, hi => by
    rw [dataF]
    by_cases h : (l.getD i default).to = t ∧ writtenL l i n keep = true
    · rw [if_pos h]
      refine .inl ?_
      rw [brings_at hx i (by omega) (written_not h.2), h.1]
    · rw [if_neg h]
      rcases dataF_or d x l n keep t hx i (by omega) with h1 | ⟨h1, h2⟩
      · exact .inl h1
      · refine .inr ⟨h1, fun j hj => ?_⟩
        rcases Nat.lt_or_ge j i with h3 | h3
        · exact h2 j h3
        · obtain rfl : j = i := by omega
          exact h
theorem leftL_length (d : List UInt8) (l : List RecM) (n k : Nat) (keep : List UInt8) (hd : d.length = k * 32) (hl : ∀ r ∈ l, r.fit k) (hn : n ≤ l.length) : (leftL d l n keep).length = k * 32 := by
  rw [leftL_run d l n k keep hd hl hn]; exact runF_length d l n k keep hd hl n hn
theorem leftL_sec (d : List UInt8) (l : List RecM) (n k : Nat) (keep : List UInt8) (hd : d.length = k * 32) (hl : ∀ r ∈ l, r.fit k) (hn : n ≤ l.length) (t : Nat) (ht : t < k) : secL (leftL d l n keep) t = dataF d l n keep t n := by
  rw [leftL_run d l n k keep hd hl hn]; exact runF_sec d l n k keep hd hl t ht n hn
theorem left_or (d x : List UInt8) (l : List RecM) (n k : Nat) (keep : List UInt8) (hd : d.length = k * 32) (hl : ∀ r ∈ l, r.fit k) (hx : Brings x l) (hn : n ≤ l.length) (t : Nat) (ht : t < k) :
    (secL (leftL d l n keep) t = secL x t) ∨ (secL (leftL d l n keep) t = secL d t ∧ ∀ j, j < n → ¬ ((l.getD j default).to = t ∧ writtenL l j n keep = true)) := by
  rw [leftL_sec d l n k keep hd hl hn t ht]; exact dataF_or d x l n keep t hx n hn
theorem mem_index {l : List RecM} {r : RecM} (h : r ∈ l) : ∃ j, j < l.length ∧ l.getD j default = r := by
  obtain ⟨j, hj, e⟩ := List.getElem_of_mem h
  exact ⟨j, hj, by rw [List.getD_eq_getElem?_getD, List.getElem?_eq_getElem hj]; exact e⟩
theorem written_stopped {l : List RecM} {i n : Nat} {keep : List UInt8} (h1 : (l.getD i default).stop = false) (h2 : stoppedL l i n = true) : writtenL l i n keep = true := by
  rw [writtenL, h1, h2]; rfl
theorem changesR_ok (d x : List UInt8) (k lo hi : Nat) (hx : x.length = k * 32) (hk : k ≤ 40) (hh : hi ≤ k) (h0 : lo ≤ hi) : (∀ r ∈ changesR d x lo hi, r.ok k) ∧ (changesR d x lo hi).length ≤ hi - lo + 1 := by
  rw [changesR]
  by_cases h : chgR d x lo (hi - lo) = []
  · rw [if_pos h]; simp
  · rw [if_neg h]
    refine ⟨fun r hr => ?_, by rw [List.length_append]; have := chgR_length d x lo (hi - lo); simp; omega⟩
    rcases List.mem_append.1 hr with h1 | h1
    · obtain ⟨h2, h3, h4, h5⟩ := chgR_mem d x lo _ r h1
      exact .inr ⟨h2, by omega, by omega, by rw [h5]; exact secL_len x _ k hx (by omega)⟩
    · rw [List.mem_singleton.1 h1]; exact .inl ⟨rfl, rfl, rfl⟩
def twoR (d x : List UInt8) (k : Nat) : List RecM := changesR d x 1 k ++ changesR d x 0 1
theorem two_mid (d x : List UInt8) (k n : Nat) (hd : d.length = k * 32) (hx : x.length = k * 32) (hk0 : 1 ≤ k) (hk : k ≤ 40) (h0 : secL d 0 ≠ secL x 0) (keep : List UInt8) (hn : n ≤ (twoR d x k).length) :
    (leftL d (twoR d x k) n keep).length = k * 32 ∧ (secL (leftL d (twoR d x k) n keep) 0 = secL d 0 ∨ leftL d (twoR d x k) n keep = x) ∧ (n = (twoR d x k).length → leftL d (twoR d x k) n keep = x) := by
  obtain ⟨ok1, len1⟩ := changesR_ok d x k 1 k hx hk (Nat.le_refl _) hk0
  obtain ⟨ok0, len0⟩ := changesR_ok d x k 0 1 hx hk hk0 (by omega)
  have hok : ∀ r ∈ twoR d x k, r.ok k := fun r hr => (List.mem_append.1 hr).elim (ok1 r) (ok0 r)
  have hf := fit_of_ok hok
  have c0 : changesR d x 0 1 = [⟨false, 0, secL x 0⟩, ⟨true, 255, []⟩] := by
    have e : chgR d x 0 (1 - 0) = [⟨false, 0, secL x 0⟩] := by
      show chgR d x 0 1 = _
      rw [chgR, chgR, if_neg (by simpa using h0)]; simp
    rw [changesR, if_neg (by rw [e]; simp), e]; rfl
  have hlen : (twoR d x k).length = (changesR d x 1 k).length + 2 := by rw [twoR, List.length_append, c0]; rfl
  have hL := leftL_length d _ n k keep hd hf hn
  have g0 : (twoR d x k).getD (changesR d x 1 k).length default = ⟨false, 0, secL x 0⟩ := by
    rw [twoR, List.getD_eq_getElem?_getD, List.getElem?_append_right (Nat.le_refl _), c0]; simp
  have g1 : (twoR d x k).getD ((changesR d x 1 k).length + 1) default = ⟨true, 255, []⟩ := by
    rw [twoR, List.getD_eq_getElem?_getD, List.getElem?_append_right (by omega), c0]; simp
  have hb : Brings x (twoR d x k) := by
    intro r hr hs
    rcases List.mem_append.1 hr with h | h
    · rw [changesR] at h
      by_cases hh : chgR d x 1 (k - 1) = []
      · rw [if_pos hh] at h; simp at h
      · rw [if_neg hh] at h
        rcases List.mem_append.1 h with h1 | h1
        · exact (chgR_mem d x 1 _ r h1).2.2.2
        · rw [List.mem_singleton.1 h1] at hs; cases hs
    · rw [c0] at h
      rcases List.mem_cons.1 h with h1 | h1
      · rw [h1]
      · rw [List.mem_singleton.1 h1] at hs; cases hs
  have hto : ∀ j, j < (changesR d x 1 k).length → (twoR d x k).getD j default ∈ changesR d x 1 k := by
    intro j hj
    rw [twoR, getD_left _ _ _ _ hj, List.getD_eq_getElem?_getD, List.getElem?_eq_getElem hj]; exact List.getElem_mem hj
  have hno0 : ∀ j, j < (changesR d x 1 k).length → (twoR d x k).getD j default ≠ default → ¬ ((twoR d x k).getD j default).to = 0 := by
    intro j hj _ e
    have hm := hto j hj
    generalize (twoR d x k).getD j default = r at *
    rw [changesR] at hm
    by_cases hh : chgR d x 1 (k - 1) = []
    · rw [if_pos hh] at hm; simp at hm
    · rw [if_neg hh] at hm
      rcases List.mem_append.1 hm with h1 | h1
      · have := (chgR_mem d x 1 _ r h1).2.1; omega
      · rw [List.mem_singleton.1 h1] at e; cases e
  have hall : (changesR d x 1 k).length < n → secL (leftL d (twoR d x k) n keep) 0 = secL x 0 → leftL d (twoR d x k) n keep = x := by
    intro hlt h00
    refine ext_sec _ _ k hL hx ?_
    intro t ht
    rcases left_or d x _ n k keep hd hf hb hn t ht with h | ⟨h, hno⟩
    · exact h
    · rcases Nat.eq_zero_or_pos t with rfl | hp
      · exact h00
      · rw [h]
        by_cases hne : secL d t = secL x t
        · exact hne
        · exfalso
          have hm := chgR_has d x 1 t (k - 1) hp (by omega) hne
          have hnn : chgR d x 1 (k - 1) ≠ [] := by intro e; rw [e] at hm; simp at hm
          obtain ⟨j, hj, e⟩ := mem_index hm
          have ec : changesR d x 1 k = chgR d x 1 (k - 1) ++ [⟨true, 255, []⟩] := by rw [changesR, if_neg hnn]
          have ecl : (changesR d x 1 k).length = (chgR d x 1 (k - 1)).length + 1 := by rw [ec]; simp
          have ej : (twoR d x k).getD j default = ⟨false, t, secL x t⟩ := by
            rw [twoR, getD_left _ _ _ _ (by omega), ec, getD_left _ _ _ _ hj, e]
          have el : (twoR d x k).getD (chgR d x 1 (k - 1)).length default = ⟨true, 255, []⟩ := by
            rw [twoR, getD_left _ _ _ _ (by omega), ec, List.getD_eq_getElem?_getD, List.getElem?_append_right (Nat.le_refl _)]; simp
          refine hno j (by omega) ⟨by rw [ej], written_stopped (by rw [ej]) ?_⟩
          exact stoppedL_hit _ j (chgR d x 1 (k - 1)).length _ hj (by omega) (by rw [el])
  refine ⟨hL, ?_, ?_⟩
  · rcases left_or d x _ n k keep hd hf hb hn 0 (by omega) with h | ⟨h, _⟩
    · by_cases hlt : (changesR d x 1 k).length < n
      · exact .inr (hall hlt h)
      · refine .inl ?_
        rw [leftL_sec d _ n k keep hd hf hn 0 (by omega)]
        have e : ∀ i, i ≤ n → dataF d (twoR d x k) n keep 0 i = secL d 0 := by
          intro i
          induction i with
          | zero => intro _; rfl
          | succ i ih =>
            intro hi
            rw [dataF, if_neg, ih (by omega)]
            rintro ⟨h1, h2⟩
            by_cases hd0 : (twoR d x k).getD i default = default
            · have hm := hto i (by omega)
              rw [hd0] at hm
              have hk' := ok1 _ hm
              rcases hk' with ⟨q, _⟩ | ⟨_, _, _, q⟩
              · cases q
              · cases q
            · exact hno0 i (by omega) hd0 h1
        exact e n (Nat.le_refl _)
    · exact .inl h
  · intro hnn
    refine hall (by omega) ?_
    rcases left_or d x _ n k keep hd hf hb hn 0 (by omega) with h | ⟨_, hno⟩
    · exact h
    · exfalso
      refine hno (changesR d x 1 k).length (by omega) ⟨by rw [g0], written_stopped (by rw [g0]) ?_⟩
      exact stoppedL_hit _ _ ((changesR d x 1 k).length + 1) _ (by omega) (by omega) (by rw [g1])
set_option linter.unusedVariables false
structure BRow (w wr : World) (g cap : Nat) (l : List UInt8) : Prop where
  below : Below w.heap.size w wr
  new : w.heap.size ≤ g
  lt : g < wr.heap.size
  le : l.length ≤ cap
  holds : ∀ j, j < l.length → wr.cell? ⟨g, j, none⟩ = some (.int .u8 ((l.getD j 0).toNat : Int))
  there : ∀ j, j < cap → (wr.cell? ⟨g, j, none⟩).isSome = true ∧ wr.frozen? ⟨g, j, none⟩ = false
theorem BRow.next {w wr w' : World} {g cap : Nat} {l : List UInt8} (h : BRow w wr g cap l) (hb : Below wr.heap.size wr w') : BRow w w' g cap l := by
  refine ⟨below_tr h.below hb, h.new, Nat.lt_of_lt_of_le h.lt hb.size, h.le, fun j hj => ?_, fun j hj => ?_⟩
  · exact (hb.cell (p := ⟨g, j, none⟩) h.lt).trans (h.holds j hj)
  · rw [hb.cell (p := ⟨g, j, none⟩) h.lt, hb.frozen (p := ⟨g, j, none⟩) h.lt]; exact h.there j hj
theorem below_cells {B g : Nat} {a : World} (hg : B ≤ g) : ∀ (vs : List Value) (o : Nat) (w : World), Below B a w → Below B a (w.setCells g o vs)
  | [], _, _, h => h
  | v :: vs, o, w, h => below_cells hg vs (o + 1) _ (h.setCell (p := ⟨g, o, none⟩) hg v)
theorem size_cells (g : Nat) : ∀ (vs : List Value) (o : Nat) (w : World), (w.setCells g o vs).heap.size = w.heap.size
  | [], _, _ => rfl
  | v :: vs, o, w => by rw [World.setCells, size_cells g vs, World.size_setCell]
theorem cellsOf_getD (l : List UInt8) (j : Nat) (h : j < (cellsOf l).length) : (cellsOf l)[j] = .int .u8 ((l.getD j 0).toNat : Int) := by
  have h' : j < l.length := by rw [cellsOf_length] at h; exact h
  have := cellsOf_at l j h'
  rw [List.getElem?_eq_getElem h] at this
  injection this with this
  rw [this, getD_of_getElem l j h']
theorem run_append_brow {w wr : World} {g cap : Nat} {l : List UInt8} (h : BRow w wr g cap l) (tx ty : TypeId) (x : Value) (b : List UInt8) (hs : Src Try.prog 1 tx x b.length (cellsOf b) wr) (hsm : l.length + b.length ≤ 1000000) :
    ∃ g' cap' w', (Builtin.append_ #[76, tx] ty #[.slice (some ⟨g, 0, none⟩) l.length cap, x]).run Try.prog wr = .ok (.slice (some ⟨g', 0, none⟩) (l.length + b.length) cap') w' ∧ BRow w w' g' cap' (l ++ b) := by
  obtain ⟨i0, hi0, hz0, hz1, hz2⟩ := info_parts Try.info5
  have hs' : Src Try.prog i0.size tx x b.length (cellsOf b) wr := by rw [hz1]; exact hs
  have hbl := h.below.size
  by_cases hroom : l.length + b.length ≤ cap
  · have hr := run_append_room_src (P := Try.prog) wr 76 tx ty 5 i0 Try.underlying76 hi0 g 0 l.length cap x b.length (cellsOf b) hs' hroom
      (by rw [hz1]; intro j hj; rw [cellsOf_length] at hj; rw [show 0 + l.length * 1 + j = l.length + j by omega]; exact (h.there _ (by omega)).1)
      (by rw [hz1]; intro j hj; rw [cellsOf_length] at hj; rw [show 0 + l.length * 1 + j = l.length + j by omega]; exact (h.there _ (by omega)).2)
    rw [hz1, show 0 + l.length * 1 = l.length by omega] at hr
    refine ⟨g, cap, _, hr, below_cells h.new _ _ _ h.below, h.new, by rw [size_cells]; exact h.lt, by rw [List.length_append]; exact hroom, ?_, ?_⟩
    · intro j hj
      rw [List.length_append] at hj
      rw [getD_app]
      by_cases hjl : j < l.length
      · rw [if_pos hjl, World.cell?_setCells_out g _ _ wr ⟨g, j, none⟩ (fun _ _ => .inl hjl)]; exact h.holds j hjl
      · rw [if_neg hjl]
        have := World.cell?_setCells_in g (cellsOf b) l.length wr (by intro q hq; rw [cellsOf_length] at hq; exact (h.there _ (by omega)).1) (j - l.length) (by rw [cellsOf_length]; omega)
        rw [show l.length + (j - l.length) = j by omega] at this
        rw [this, cellsOf_getD]
    · intro j hj
      obtain ⟨q1, q2⟩ := h.there j hj
      exact ⟨World.isSome_setCells g _ _ wr _ q1, by rw [World.frozen?_setCells]; exact q2⟩
  · have hold : (Builtin.firstCells i0.size l.length (.slice (some ⟨g, 0, none⟩) l.length cap)).run Try.prog wr.drew = .ok (cellsOf l).toArray wr.drew := by
      rw [hz1]
      refine run_firstCells_some wr.drew 1 l.length ⟨g, 0, none⟩ l.length cap (cellsOf l) (by rw [cellsOf_length]; omega) ?_
      intro j u hu
      have hj : j < (cellsOf l).length := (List.getElem?_eq_some_iff.1 hu).1
      have e : (⟨g, 0, none⟩ : Addr).add j = ⟨g, j, none⟩ := by
        simp [Addr.add]
        exact fun h => h.symm
      rw [e]
      rw [cellsOf_length] at hj
      have := h.holds j hj
      rw [cellsOf_at l j hj] at hu
      rw [getD_of_getElem l j hj] at this
      rw [← hu]; exact this
    have hr := run_append_grow_src (P := Try.prog) wr 76 tx ty 5 i0 (.int .u8 0) Try.underlying76 hi0 hz0 (some ⟨g, 0, none⟩) l.length cap (cellsOf l) hold x b.length (cellsOf b) hs' (by omega) (by omega) (growslice_fits (by omega) (by rw [hz2]; omega))
    have hge := grownCap_ge wr (l.length + b.length) cap 5
    refine ⟨_, _, _, hr, ?_⟩
    generalize grownCap wr (l.length + b.length) cap 5 = C at *
    have hz : (Value.int .u8 0).cells = #[Value.int .u8 0] := rfl
    have hsz : ((cellsOf l ++ cellsOf b).toArray ++ Builtin.zeroCells (Value.int .u8 0).cells (C - (l.length + b.length))).size = C := by
      rw [Array.size_append, List.size_toArray, List.length_append, cellsOf_length, cellsOf_length, size_zeroCells, hz]
      simp; omega
    refine ⟨(h.below.drew).alloc (by simpa using hbl) _, by simpa using hbl, by simp, by rw [List.length_append]; exact hge, ?_, ?_⟩
    · intro j hj
      have e1 := World.cell?_alloc_new wr.drew ((cellsOf l ++ cellsOf b).toArray ++ Builtin.zeroCells (Value.int .u8 0).cells (C - (l.length + b.length))) 5 j
      have e0 : wr.drew.heap.size = wr.heap.size := rfl
      rw [e0] at e1
      rw [e1]
      have hj' : j < (cellsOf (l ++ b)).length := by rw [cellsOf_length]; exact hj
      rw [Array.getElem?_append_left (by rw [List.size_toArray, ← cellsOf_append]; exact hj'), List.getElem?_toArray, ← cellsOf_append, List.getElem?_eq_getElem hj', cellsOf_getD]
    · intro j hj
      have e1 := World.cell?_alloc_new wr.drew ((cellsOf l ++ cellsOf b).toArray ++ Builtin.zeroCells (Value.int .u8 0).cells (C - (l.length + b.length))) 5 j
      have e2 := World.frozen?_alloc_new wr.drew ((cellsOf l ++ cellsOf b).toArray ++ Builtin.zeroCells (Value.int .u8 0).cells (C - (l.length + b.length))) 5 j
      have e0 : wr.drew.heap.size = wr.heap.size := rfl
      rw [e0] at e1 e2
      rw [e1, e2, Array.getElem?_eq_getElem (by rw [hsz]; exact hj)]
      exact ⟨rfl, rfl⟩
theorem wpList_append_brow {w wr : World} {g cap : Nat} {l : List UInt8} {ops : Array Oper} {rest : List Oper} {o : Oper} {a : Act} {Q : Exit → Act → World → Prop} (hgd : o.guard = none) (s x : Operand) (tx : TypeId)
    (ho : o.op = .call { callee := .builtin .append, args := #[s, x], argTypes := #[76, tx] }) (h : BRow w wr g cap l) (hse : a.eval s = .slice (some ⟨g, 0, none⟩) l.length cap)
    (xv : Value) (hx : a.eval x = xv) (b : List UInt8) (hs : Src Try.prog 1 tx xv b.length (cellsOf b) wr) (hsm : l.length + b.length ≤ 1000000)
    (K : ∀ g' cap' w', BRow w w' g' cap' (l ++ b) → wpList Try.prog ops Q rest (a.put o.dst (.slice (some ⟨g', 0, none⟩) (l.length + b.length) cap')) w') : wpList Try.prog ops Q (o :: rest) a wr := by
  refine wpList_plain hgd fun _ hK => ?_
  obtain ⟨g', cap', w', hr, h2⟩ := run_append_brow h tx o.type xv b hs hsm
  unfold Oper.wp execOp
  simp only [ho, resolve, invoke, builtin, Sem.run_bind, Sem.run_pure, Result.andThen_ok, List.map_toArray, List.map_cons, List.map_nil, hse, hx, hr]
  exact hK _ _ (K g' cap' w' h2)
theorem BRow.lit (w : World) : BRow w (w.alloc (.cells #[] 5)) w.heap.size 0 [] :=
  ⟨(Below.refl _ _).alloc (Nat.le_refl _) _, Nat.le_refl _, by simp, Nat.le_refl _, fun j h => absurd h (Nat.not_lt_zero _), fun j h => absurd h (Nat.not_lt_zero _)⟩
theorem src_one (wr : World) (c : UInt8) (cells : Array Value) (hc : cells = #[.int .u8 (c.toNat : Int)]) : Src Try.prog 1 76 (.slice (some ⟨wr.heap.size, 0, none⟩) 1 1) ([c] : List UInt8).length (cellsOf [c]) (wr.alloc (.cells cells 5)) := by
  subst hc
  refine Src.ofSlice (w := wr.alloc (.cells #[.int .u8 (c.toNat : Int)] 5)) Try.underlying76 ⟨wr.heap.size, 0, none⟩ 1 1 [.int .u8 (c.toNat : Int)] rfl ?_ (by simp [Value.oneCell'])
  exact World.news_of_block (cs := #[.int .u8 (c.toNat : Int)]) (t := 5) (fr := (0, 0)) (heap_alloc_new _ _)
theorem src_string (wr : World) (s : ByteArray) : Src Try.prog 1 9 (.string s) s.data.toList.length (cellsOf s.data.toList) wr := by
  rw [len_list]; exact Src.ofString wr Try.underlying9 s
theorem conv_brow {w wr : World} {g cap : Nat} {l : List UInt8} (h : BRow w wr g cap l) :
    (convert 76 9 (.slice (some ⟨g, 0, none⟩) l.length cap)).run Try.prog wr = .ok (.string (str l)) wr :=
  run_convert_bytes_back wr 76 9 5 ⟨g, 0, none⟩ cap l Try.underlying76 Try.underlying5 Try.underlying9 (fun j hj => by
    have e : (⟨g, 0, none⟩ : Addr).add j = ⟨g, j, none⟩ := by
      simp [Addr.add]
      exact fun h => h.symm
    rw [e, h.holds j hj, getD_of_getElem l j hj])
theorem chgB_length (a b : List UInt8) (lo : Nat) : ∀ m, (chgB a b lo m).length ≤ m * 33
  | 0 => Nat.le_refl _
  | m + 1 => by
    rw [chgB, List.length_append]
    have := chgB_length a b lo m
    have h2 : (secL b (lo + m)).length ≤ 32 := by rw [secL, List.length_take]; exact Nat.min_le_left _ _
    split <;> simp <;> omega
theorem str_beq (x y : List UInt8) : ((str x).toList == (str y).toList) = decide (x = y) := by
  rw [ByteArray.toList_eq, ByteArray.toList_eq, str_toList, str_toList]
  by_cases h : x = y
  · subst h; simp
  · rw [decide_eq_false h, beq_eq_false_iff_ne]; exact h
theorem changes_nat (a b : ByteArray) (k lo hi : Nat) (w : World) (ha : a.size = k * 32) (hb : b.size = k * 32) (hk : k ≤ 40) (h1 : lo ≤ hi) (h2 : hi ≤ k) :
    Calls Try.prog 61 #[.string a, .string b, .int .i64 lo, .int .i64 hi] w fun e w' => e = .returned (.string (str (changesL a.data.toList b.data.toList lo hi))) ∧ Below w.heap.size w w' := by
  have ca := fun (i : Nat) w => sector_any a k (i : Int) w (by omega) ha (by omega)
  have cb := fun (i : Nat) w => sector_any b k (i : Int) w (by omega) hb (by omega)
  simp only [Int.toNat_natCast] at ca cb
  go_enter Try.func61, Try.ntmps61
  go_wp2
  go_loopg [9, 10] (hi + 1) (fun gg v c wr => ∃ (m g cap : Nat), ∃ l : List UInt8, c = .int .i64 (lo + m : Nat) ∧ v = .slice (some ⟨g, 0, none⟩) l.length cap ∧ lo + m ≤ hi ∧ gg + lo + m = hi + 1 + lo ∧ l.length ≤ m * 33 ∧ l = chgB a.data.toList b.data.toList lo m ∧ BRow w wr g cap l)
  case atStart => exact ⟨0, _, _, [], rfl, rfl, by omega, by omega, by simp, rfl, BRow.lit w⟩
  case round =>
    obtain ⟨m, g, cap, l, rfl, rfl, hm, hg, hll, hl, hrow⟩ := hrel; have HL : Hid (l = chgB a.data.toList b.data.toList lo m) := hl; clear hl
    by_cases hlt : lo + m < hi
    · have hI : ((lo + m : Nat) : Int) < (hi : Int) := by omega
      have ca1 := ca (lo + m); have cb1 := cb (lo + m)
      have hsl := secL_len b.data.toList (lo + m) k (by rw [len_list]; exact hb) (by omega)
      have HC : Hid (chgB a.data.toList b.data.toList lo (m + 1) = chgB a.data.toList b.data.toList lo m ++ (if secL a.data.toList (lo + m) = secL b.data.toList (lo + m) then [] else UInt8.ofNat (lo + m) :: secL b.data.toList (lo + m))) := rfl
      have hbq := str_beq (secL a.data.toList (lo + m)) (secL b.data.toList (lo + m))
      generalize secL a.data.toList (lo + m) = xa at *
      generalize secL b.data.toList (lo + m) = xb at *
      obtain ⟨q, hq⟩ : ∃ q, q = lo + m := ⟨_, rfl⟩
      rw [← hq] at ca1 cb1 hI HC ⊢
      have HQ : Hid (q = lo + m) := hq
      have hq40 : q < 40 := by omega
      clear hq ca cb; have tok1 : True := trivial
      by_cases heq : xa = xb
      · rw [decide_eq_true heq] at hbq
        have HX : Hid (chgB a.data.toList b.data.toList lo (m + 1) = l) := by show _ = _; rw [HC.out, if_pos heq, List.append_nil, HL.out]
        clear HC heq
        go_wp2_with (first | (go_at_call 78; have _t := tok1; refine (cb1 _).mono ?_; rintro e w' ⟨rfl, hw⟩; rw [hw]; clear hw w' tok1) | (go_at_call 78; refine (ca1 _).mono ?_; rintro e w' ⟨rfl, hw⟩; rw [hw]; clear hw w'))
        go_roundg (gk - 1)
        case measure => omega
        case rel => exact ⟨m + 1, g, cap, l, by rw [HQ.out]; simp; omega, rfl, by omega, by omega, by omega, HX.out.symm, hrow⟩
      · rw [decide_eq_false heq] at hbq
        have HX : Hid (chgB a.data.toList b.data.toList lo (m + 1) = l ++ [UInt8.ofNat q] ++ xb) := by show _ = _; rw [HC.out, if_neg heq, HL.out]; simp
        clear HC heq
        have hcq : ((UInt8.ofNat q).toNat : Int) = (q : Int) := by rw [UInt8.toNat_ofNat']; omega
        have hel : (l ++ [UInt8.ofNat q]).length = l.length + 1 := by simp
        go_upto_region 7 with (first | (go_at_call 78; have _t := tok1; refine (cb1 _).mono ?_; rintro e w' ⟨rfl, hw⟩; rw [hw]; clear hw w' tok1) | (go_at_call 78; refine (ca1 _).mono ?_; rintro e w' ⟨rfl, hw⟩; rw [hw]; clear hw w'))
        go_wp2_with (first | (at_builtin; refine wpList_append_brow rfl (.tmp 27) (.tmp 30) 76 rfl (hrow.next ((Below.refl _ _).alloc (Nat.le_refl _) _)) rfl _ rfl [UInt8.ofNat q] (src_one wr (UInt8.ofNat q) _ (by rw [hcq])) (by simp; omega) ?_; intro g1 cap1 w1 hrow1) | (at_builtin; refine wpList_append_brow rfl (.tmp 32) (.tmp 33) 9 rfl hrow1 (by rw [hel]; rfl) _ rfl xb (src_string _ (str xb)) (by rw [hel]; omega) ?_; intro g2 cap2 w2 hrow2))
        go_roundg (gk - 1)
        case measure => omega
        case rel => exact ⟨m + 1, g2, cap2, _, by rw [HQ.out]; simp; omega, by simp; omega, by omega, by omega, by simp; omega, HX.out.symm, hrow2⟩
    · obtain rfl : hi = lo + m := by omega
      have hsub : lo + m - lo = m := by omega
      by_cases hnil : l = []
      · subst hnil
        have HE : Hid (changesL a.data.toList b.data.toList lo (lo + m) = []) := by show _ = _; rw [changesL, hsub, ← HL.out, if_pos rfl]
        have HB : Hid (Below w.heap.size w wr) := hrow.below; clear hrow; go_wp2; go_ret; rw [HE.out]; exact ⟨rfl, HB.out⟩
      · have HE : Hid (changesL a.data.toList b.data.toList lo (lo + m) = l ++ [255]) := by show _ = _; rw [changesL, hsub, ← HL.out, if_neg hnil]
        have hlp : 0 < l.length := List.length_pos_iff.2 hnil
        have hlI : ((l.length : Int) == 0) = false := by rw [beq_eq_false_iff_ne]; omega
        have hel : (l ++ [(255 : UInt8)]).length = l.length + 1 := by simp
        go_wp2_with (first | (at_builtin; refine wpList_append_brow rfl (.tmp 38) (.tmp 39) 76 rfl (hrow.next ((Below.refl _ _).alloc (Nat.le_refl _) _)) rfl _ rfl [(255 : UInt8)] (src_one wr 255 _ rfl) (by simp; omega) ?_; intro g1 cap1 w1 hrow1; have hconv := conv_brow hrow1; rw [hel] at hconv))
        go_ret; rw [HE.out]; exact ⟨rfl, hrow1.below⟩
theorem changes_any (a b : ByteArray) (k : Nat) (lo hi : Int) (w : World) (ha : a.size = k * 32) (hb : b.size = k * 32) (hk : k ≤ 40) (h0 : 0 ≤ lo) (h1 : lo ≤ hi) (h2 : hi ≤ k) :
    Calls Try.prog 61 #[.string a, .string b, .int .i64 lo, .int .i64 hi] w fun e w' => e = .returned (.string (str (changesL a.data.toList b.data.toList lo.toNat hi.toNat))) ∧ Below w.heap.size w w' := by
  obtain ⟨lo, rfl⟩ := Int.eq_ofNat_of_zero_le h0
  obtain ⟨hi, rfl⟩ := Int.eq_ofNat_of_zero_le (show 0 ≤ hi by omega)
  exact changes_nat a b k lo hi w ha hb hk (by omega) (by omega)
structure RecsIn (w : World) (g cap : Nat) (l : List RecM) : Prop where
  lt : g < w.heap.size
  cap : l.length ≤ cap
  at_ : ∀ j, j < l.length → w.cell? ⟨g, j * 3, none⟩ = some (.bool (devR (l.getD j default)).stop) ∧ w.cell? ⟨g, j * 3 + 1, none⟩ = some (.int .i64 ((devR (l.getD j default)).to : Int)) ∧ w.cell? ⟨g, j * 3 + 2, none⟩ = some (.string (str (devR (l.getD j default)).data))
theorem RecsIn.next {w w' : World} {g cap : Nat} {l : List RecM} (h : RecsIn w g cap l) (hb : Below w.heap.size w w') : RecsIn w' g cap l := by
  refine ⟨Nat.lt_of_lt_of_le h.lt hb.size, h.cap, fun j hj => ?_⟩
  obtain ⟨a, b, c⟩ := h.at_ j hj; exact ⟨(hb.cell (p := ⟨g, j * 3, none⟩) h.lt).trans a, (hb.cell (p := ⟨g, j * 3 + 1, none⟩) h.lt).trans b, (hb.cell (p := ⟨g, j * 3 + 2, none⟩) h.lt).trans c⟩
theorem RecsIn.of_own {w : World} {base g cap : Nat} {e : TypeId} {l : List RecM} (h : w.ownsRow base e 3 (.slice (some ⟨g, 0, none⟩) l.length cap) l.length (recsCells (devL l))) : RecsIn w g cap l := by
  have h' : w.ownsRow base e 3 (.slice (some ⟨g, 0, none⟩) l.length cap) (devL l).length (recsCells (devL l)) := by rw [devL_length]; exact h
  rcases RecsAt.of_own h' with ⟨h1, _⟩ | ⟨g', cap', h1, h2, h3, h4⟩
  · cases h1
  · injection h1 with q1 q2 q3
    injection q1 with q1
    injection q1 with q1
    subst q1 q3
    refine ⟨h3, by rw [devL_length] at h2; exact h2, fun j hj => ?_⟩
    have := h4 j (by rw [devL_length]; exact hj)
    rw [← devL_at l j hj, List.getD_eq_getElem?_getD, List.getElem?_eq_getElem (by rw [devL_length]; exact hj)]
    exact this
end Go.Proofs.Ytabpkohcimiceab
