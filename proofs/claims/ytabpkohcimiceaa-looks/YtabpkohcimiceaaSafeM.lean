import Derived.Test.YtabpkohcimiceaaPlanM
namespace Go.Proofs.Ytabpkohcimiceaa
open Go.RowKit

/-! ### The plan that turns one disk's sectors into another's -/
def chgB (a b : List UInt8) (lo : Nat) : Nat → List UInt8
  | 0 => []
  | m + 1 => chgB a b lo m ++ (if secL a (lo + m) = secL b (lo + m) then [] else UInt8.ofNat (lo + m) :: secL b (lo + m))
def changesL (a b : List UInt8) (lo hi : Nat) : List UInt8 := if chgB a b lo (hi - lo) = [] then [] else chgB a b lo (hi - lo) ++ [255]
def chgR (a b : List UInt8) (lo : Nat) : Nat → List RecM
  | 0 => []
  | m + 1 => chgR a b lo m ++ (if secL a (lo + m) = secL b (lo + m) then [] else [⟨false, lo + m, secL b (lo + m)⟩])
def changesR (a b : List UInt8) (lo hi : Nat) : List RecM := if chgR a b lo (hi - lo) = [] then [] else chgR a b lo (hi - lo) ++ [⟨true, 255, []⟩]
def encR (r : RecM) : List UInt8 := if r.stop = true then [255] else UInt8.ofNat r.to :: r.data
def encL : List RecM → List UInt8
  | [] => []
  | r :: l => encR r ++ encL l
theorem encL_append (a b : List RecM) : encL (a ++ b) = encL a ++ encL b := by
  induction a with
  | nil => rfl
  | cons r a ih => rw [List.cons_append, encL, encL, ih, List.append_assoc]
theorem chgB_enc (a b : List UInt8) (lo : Nat) : ∀ m, chgB a b lo m = encL (chgR a b lo m)
  | 0 => rfl
  | m + 1 => by
    rw [chgB, chgR, encL_append, chgB_enc a b lo m]
    by_cases h : secL a (lo + m) = secL b (lo + m)
    · rw [if_pos h, if_pos h]; rfl
    · rw [if_neg h, if_neg h]; simp [encL, encR]
theorem encL_nil (l : List RecM) : encL l = [] ↔ l = [] := by
  cases l with
  | nil => simp [encL]
  | cons r l =>
    simp only [encL, encR]
    split <;> simp
theorem changesL_enc (a b : List UInt8) (lo hi : Nat) : changesL a b lo hi = encL (changesR a b lo hi) := by
  rw [changesL, changesR, chgB_enc]
  by_cases h : chgR a b lo (hi - lo) = []
  · rw [if_pos ((encL_nil _).2 h), if_pos h]; rfl
  · rw [if_neg (fun x => h ((encL_nil _).1 x)), if_neg h, encL_append]; simp [encL, encR]
theorem recsF_enc (n : Nat) : ∀ (l : List RecM) (k : Nat), (∀ r ∈ l, r.ok n) → l.length ≤ k → recsF n k (encL l) = some l
  | [], k, _, _ => by cases k <;> rfl
  | r :: l, 0, _, h => by simp at h
  | r :: l, k + 1, hr, h => by
    have ih := recsF_enc n l k (fun x hx => hr x (List.mem_cons_of_mem _ hx)) (by simpa using h)
    rcases hr r (List.mem_cons_self ..) with ⟨h1, h2, h3⟩ | ⟨h1, h2, h3, h4⟩
    · rw [encL, encR, if_pos h1]
      show recsF n (k + 1) (255 :: encL l) = _
      rw [recsF, if_pos rfl, ih]
      obtain ⟨s, t, d⟩ := r
      simp only at h1 h2 h3
      subst h1 h2 h3
      rfl
    · rw [encL, encR, if_neg (by rw [h1]; simp)]
      show recsF n (k + 1) (UInt8.ofNat r.to :: (r.data ++ encL l)) = _
      have e : (UInt8.ofNat r.to).toNat = r.to := by rw [UInt8.toNat_ofNat']; omega
      have e2 : UInt8.ofNat r.to ≠ 255 := by
        intro x
        have := congrArg UInt8.toNat x
        rw [e] at this
        have h255 : (255 : UInt8).toNat = 255 := rfl
        omega
      rw [recsF, if_neg e2, if_neg (by rw [e, List.length_append]; omega), e, List.take_left' h4, List.drop_left' h4, ih]
      obtain ⟨s, t, d⟩ := r
      simp only at h1
      subst h1
      rfl

/-- The records of such a plan. -/
theorem chgR_mem (a b : List UInt8) (lo : Nat) : ∀ m r, r ∈ chgR a b lo m → r.stop = false ∧ lo ≤ r.to ∧ r.to < lo + m ∧ r.data = secL b r.to
  | 0, r, h => by simp [chgR] at h
  | m + 1, r, h => by
    rw [chgR] at h
    rcases List.mem_append.1 h with h | h
    · obtain ⟨h1, h2, h3, h4⟩ := chgR_mem a b lo m r h
      exact ⟨h1, h2, by omega, h4⟩
    · by_cases hh : secL a (lo + m) = secL b (lo + m)
      · rw [if_pos hh] at h; simp at h
      · rw [if_neg hh] at h
        rw [List.mem_singleton.1 h]
        exact ⟨rfl, by show lo ≤ lo + m; omega, by show lo + m < lo + (m + 1); omega, rfl⟩
theorem chgR_has (a b : List UInt8) (lo t : Nat) : ∀ m, lo ≤ t → t < lo + m → secL a t ≠ secL b t → ⟨false, t, secL b t⟩ ∈ chgR a b lo m
  | 0, h1, h2, _ => by omega
  | m + 1, h1, h2, h3 => by
    rw [chgR]
    by_cases h : t = lo + m
    · subst h
      rw [if_neg h3]
      exact List.mem_append_right _ (List.mem_singleton.2 rfl)
    · exact List.mem_append_left _ (chgR_has a b lo t m h1 (by omega) h3)
theorem chgR_length (a b : List UInt8) (lo : Nat) : ∀ m, (chgR a b lo m).length ≤ m
  | 0 => Nat.le_refl _
  | m + 1 => by
    rw [chgR, List.length_append]
    have := chgR_length a b lo m
    split <;> simp <;> omega

/-! ### What is left, sector by sector -/
/-- All writes bring the sectors of the disk x. -/
def Brings (x : List UInt8) (l : List RecM) : Prop := ∀ r ∈ l, r.stop = false → r.data = secL x r.to
theorem brings_at {x : List UInt8} {l : List RecM} (h : Brings x l) (i : Nat) (hi : i < l.length) (hs : (l.getD i default).stop = false) : (l.getD i default).data = secL x (l.getD i default).to := by
  have hm : l.getD i default ∈ l := by rw [List.getD_eq_getElem?_getD, List.getElem?_eq_getElem hi]; exact List.getElem_mem hi
  exact h _ hm hs
theorem dataF_or (d x : List UInt8) (l : List RecM) (n : Nat) (keep : List UInt8) (t : Nat) (hx : Brings x l) : ∀ i, i ≤ l.length →
    (dataF d l n keep t i = secL x t) ∨ (dataF d l n keep t i = secL d t ∧ ∀ j, j < i → ¬ ((l.getD j default).to = t ∧ writtenL l j n keep = true))
  | 0, _ => .inr ⟨rfl, fun j h => absurd h (Nat.not_lt_zero _)⟩
  | i + 1, hi => by
    rw [dataF]
    by_cases h : (l.getD i default).to = t ∧ writtenL l i n keep = true
    · rw [if_pos h]
      refine .inl ?_
      rw [brings_at hx i (by omega) (written_not h.2), h.1]
    · rw [if_neg h]
      rcases dataF_or d x l n keep t hx i (by omega) with h1 | ⟨h1, h2⟩
      · exact .inl h1
      · refine .inr ⟨h1, fun j hj => ?_⟩
        rcases Nat.lt_or_ge j i with h3 | h3
        · exact h2 j h3
        · obtain rfl : j = i := by omega
          exact h
theorem leftL_length (d : List UInt8) (l : List RecM) (n k : Nat) (keep : List UInt8) (hd : d.length = k * 32) (hl : ∀ r ∈ l, r.fit k) (hn : n ≤ l.length) : (leftL d l n keep).length = k * 32 := by
  rw [leftL_run d l n k keep hd hl hn]; exact runF_length d l n k keep hd hl n hn
theorem leftL_sec (d : List UInt8) (l : List RecM) (n k : Nat) (keep : List UInt8) (hd : d.length = k * 32) (hl : ∀ r ∈ l, r.fit k) (hn : n ≤ l.length) (t : Nat) (ht : t < k) : secL (leftL d l n keep) t = dataF d l n keep t n := by
  rw [leftL_run d l n k keep hd hl hn]; exact runF_sec d l n k keep hd hl t ht n hn
/-- A sector is the new one, or the old one and nothing that is done goes there. -/
theorem left_or (d x : List UInt8) (l : List RecM) (n k : Nat) (keep : List UInt8) (hd : d.length = k * 32) (hl : ∀ r ∈ l, r.fit k) (hx : Brings x l) (hn : n ≤ l.length) (t : Nat) (ht : t < k) :
    (secL (leftL d l n keep) t = secL x t) ∨ (secL (leftL d l n keep) t = secL d t ∧ ∀ j, j < n → ¬ ((l.getD j default).to = t ∧ writtenL l j n keep = true)) := by
  rw [leftL_sec d l n k keep hd hl hn t ht]
  exact dataF_or d x l n keep t hx n hn
theorem mem_index {l : List RecM} {r : RecM} (h : r ∈ l) : ∃ j, j < l.length ∧ l.getD j default = r := by
  obtain ⟨j, hj, e⟩ := List.getElem_of_mem h
  exact ⟨j, hj, by rw [List.getD_eq_getElem?_getD, List.getElem?_eq_getElem hj]; exact e⟩
theorem written_stopped {l : List RecM} {i n : Nat} {keep : List UInt8} (h1 : (l.getD i default).stop = false) (h2 : stoppedL l i n = true) : writtenL l i n keep = true := by
  rw [writtenL, h1, h2]; rfl

/-- One row of changes with a barrier behind it: in the end the new disk is there. -/
theorem changes_end (d x : List UInt8) (k lo : Nat) (hd : d.length = k * 32) (hx : x.length = k * 32) (keep : List UInt8) (hlo : ∀ t, t < lo → secL d t = secL x t) :
    leftL d (changesR d x lo k) (changesR d x lo k).length keep = x := by
  have hb : Brings x (changesR d x lo k) := by
    intro r hr hs
    rw [changesR] at hr
    by_cases h : chgR d x lo (k - lo) = []
    · rw [if_pos h] at hr; simp at hr
    · rw [if_neg h] at hr
      rcases List.mem_append.1 hr with h1 | h1
      · exact (chgR_mem d x lo _ r h1).2.2.2
      · rw [List.mem_singleton.1 h1] at hs; cases hs
  have hf : ∀ r ∈ changesR d x lo k, r.fit k := by
    intro r hr hs
    rw [changesR] at hr
    by_cases h : chgR d x lo (k - lo) = []
    · rw [if_pos h] at hr; simp at hr
    · rw [if_neg h] at hr
      rcases List.mem_append.1 hr with h1 | h1
      · obtain ⟨_, h2, h3, h4⟩ := chgR_mem d x lo _ r h1
        exact ⟨by omega, by rw [h4]; exact secL_len x _ k hx (by omega)⟩
      · rw [List.mem_singleton.1 h1] at hs; cases hs
  refine ext_sec _ _ k (leftL_length d _ _ k keep hd hf (Nat.le_refl _)) hx ?_
  intro t ht
  rcases left_or d x _ _ k keep hd hf hb (Nat.le_refl _) t ht with h | ⟨h, hno⟩
  · exact h
  · rw [h]
    rcases Nat.lt_or_ge t lo with hlt | hge
    · exact hlo t hlt
    · by_cases hne : secL d t = secL x t
      · exact hne
      · exfalso
        have hm := chgR_has d x lo t (k - lo) hge (by omega) hne
        have hnn : chgR d x lo (k - lo) ≠ [] := by intro e; rw [e] at hm; simp at hm
        obtain ⟨j, hj, e⟩ := mem_index hm
        have ec : changesR d x lo k = chgR d x lo (k - lo) ++ [⟨true, 255, []⟩] := by rw [changesR, if_neg hnn]
        rw [ec] at hno
        have ej : (chgR d x lo (k - lo) ++ [(⟨true, 255, []⟩ : RecM)]).getD j default = ⟨false, t, secL x t⟩ := by rw [getD_left _ _ _ _ hj, e]
        have el : (chgR d x lo (k - lo) ++ [(⟨true, 255, []⟩ : RecM)]).getD (chgR d x lo (k - lo)).length default = ⟨true, 255, []⟩ := by
          rw [List.getD_eq_getElem?_getD, List.getElem?_append_right (Nat.le_refl _)]; simp
        refine hno j (by simp; omega) ⟨by rw [ej], written_stopped (by rw [ej]) ?_⟩
        exact stoppedL_hit _ j (chgR d x lo (k - lo)).length _ hj (by simp) (by rw [el])
theorem changes_mid (d x : List UInt8) (k lo n : Nat) (hd : d.length = k * 32) (hx : x.length = k * 32) (keep : List UInt8) (hn : n ≤ (changesR d x lo k).length) :
    (leftL d (changesR d x lo k) n keep).length = k * 32 ∧ ∀ t, t < k → secL (leftL d (changesR d x lo k) n keep) t = secL x t ∨ secL (leftL d (changesR d x lo k) n keep) t = secL d t := by
  have hb : Brings x (changesR d x lo k) := by
    intro r hr hs
    rw [changesR] at hr
    by_cases h : chgR d x lo (k - lo) = []
    · rw [if_pos h] at hr; simp at hr
    · rw [if_neg h] at hr
      rcases List.mem_append.1 hr with h1 | h1
      · exact (chgR_mem d x lo _ r h1).2.2.2
      · rw [List.mem_singleton.1 h1] at hs; cases hs
  have hf : ∀ r ∈ changesR d x lo k, r.fit k := by
    intro r hr hs
    rw [changesR] at hr
    by_cases h : chgR d x lo (k - lo) = []
    · rw [if_pos h] at hr; simp at hr
    · rw [if_neg h] at hr
      rcases List.mem_append.1 hr with h1 | h1
      · obtain ⟨_, h2, h3, h4⟩ := chgR_mem d x lo _ r h1
        exact ⟨by omega, by rw [h4]; exact secL_len x _ k hx (by omega)⟩
      · rw [List.mem_singleton.1 h1] at hs; cases hs
  refine ⟨leftL_length d _ _ k keep hd hf hn, fun t ht => ?_⟩
  rcases left_or d x _ _ k keep hd hf hb hn t ht with h | ⟨h, _⟩
  · exact .inl h
  · exact .inr h
theorem changesR_ok (d x : List UInt8) (k lo hi : Nat) (hx : x.length = k * 32) (hk : k ≤ 40) (hh : hi ≤ k) (h0 : lo ≤ hi) : (∀ r ∈ changesR d x lo hi, r.ok k) ∧ (changesR d x lo hi).length ≤ hi - lo + 1 := by
  rw [changesR]
  by_cases h : chgR d x lo (hi - lo) = []
  · rw [if_pos h]; simp
  · rw [if_neg h]
    refine ⟨fun r hr => ?_, by rw [List.length_append]; have := chgR_length d x lo (hi - lo); simp; omega⟩
    rcases List.mem_append.1 hr with h1 | h1
    · obtain ⟨h2, h3, h4, h5⟩ := chgR_mem d x lo _ r h1
      exact .inr ⟨h2, by omega, by omega, by rw [h5]; exact secL_len x _ k hx (by omega)⟩
    · rw [List.mem_singleton.1 h1]; exact .inl ⟨rfl, rfl, rfl⟩

/-! ### The sides first, sector 0 last -/
def twoR (d x : List UInt8) (k : Nat) : List RecM := changesR d x 1 k ++ changesR d x 0 1
/-- Wherever the power fails: sector 0 is the old one, or all is new; in the end all is new. -/
theorem two_mid (d x : List UInt8) (k n : Nat) (hd : d.length = k * 32) (hx : x.length = k * 32) (hk0 : 1 ≤ k) (hk : k ≤ 40) (h0 : secL d 0 ≠ secL x 0) (keep : List UInt8) (hn : n ≤ (twoR d x k).length) :
    (leftL d (twoR d x k) n keep).length = k * 32 ∧ (secL (leftL d (twoR d x k) n keep) 0 = secL d 0 ∨ leftL d (twoR d x k) n keep = x) ∧ (n = (twoR d x k).length → leftL d (twoR d x k) n keep = x) := by
  obtain ⟨ok1, len1⟩ := changesR_ok d x k 1 k hx hk (Nat.le_refl _) hk0
  obtain ⟨ok0, len0⟩ := changesR_ok d x k 0 1 hx hk hk0 (by omega)
  have hok : ∀ r ∈ twoR d x k, r.ok k := fun r hr => (List.mem_append.1 hr).elim (ok1 r) (ok0 r)
  have hf := fit_of_ok hok
  have c0 : changesR d x 0 1 = [⟨false, 0, secL x 0⟩, ⟨true, 255, []⟩] := by
    have e : chgR d x 0 (1 - 0) = [⟨false, 0, secL x 0⟩] := by
      show chgR d x 0 1 = _
      rw [chgR, chgR, if_neg (by simpa using h0)]; simp
    rw [changesR, if_neg (by rw [e]; simp), e]; rfl
  have hlen : (twoR d x k).length = (changesR d x 1 k).length + 2 := by rw [twoR, List.length_append, c0]; rfl
  have hL := leftL_length d _ n k keep hd hf hn
  have g0 : (twoR d x k).getD (changesR d x 1 k).length default = ⟨false, 0, secL x 0⟩ := by
    rw [twoR, List.getD_eq_getElem?_getD, List.getElem?_append_right (Nat.le_refl _), c0]; simp
  have g1 : (twoR d x k).getD ((changesR d x 1 k).length + 1) default = ⟨true, 255, []⟩ := by
    rw [twoR, List.getD_eq_getElem?_getD, List.getElem?_append_right (by omega), c0]; simp
  have hb : Brings x (twoR d x k) := by
    intro r hr hs
    rcases List.mem_append.1 hr with h | h
    · rw [changesR] at h
      by_cases hh : chgR d x 1 (k - 1) = []
      · rw [if_pos hh] at h; simp at h
      · rw [if_neg hh] at h
        rcases List.mem_append.1 h with h1 | h1
        · exact (chgR_mem d x 1 _ r h1).2.2.2
        · rw [List.mem_singleton.1 h1] at hs; cases hs
    · rw [c0] at h
      rcases List.mem_cons.1 h with h1 | h1
      · rw [h1]
      · rw [List.mem_singleton.1 h1] at hs; cases hs
  have hto : ∀ j, j < (changesR d x 1 k).length → (twoR d x k).getD j default ∈ changesR d x 1 k := by
    intro j hj
    rw [twoR, getD_left _ _ _ _ hj, List.getD_eq_getElem?_getD, List.getElem?_eq_getElem hj]; exact List.getElem_mem hj
  have hno0 : ∀ j, j < (changesR d x 1 k).length → (twoR d x k).getD j default ≠ default → ¬ ((twoR d x k).getD j default).to = 0 := by
    intro j hj _ e
    have hm := hto j hj
    generalize (twoR d x k).getD j default = r at *
    rw [changesR] at hm
    by_cases hh : chgR d x 1 (k - 1) = []
    · rw [if_pos hh] at hm; simp at hm
    · rw [if_neg hh] at hm
      rcases List.mem_append.1 hm with h1 | h1
      · have := (chgR_mem d x 1 _ r h1).2.1; omega
      · rw [List.mem_singleton.1 h1] at e; cases e
  have hall : (changesR d x 1 k).length < n → secL (leftL d (twoR d x k) n keep) 0 = secL x 0 → leftL d (twoR d x k) n keep = x := by
    intro hlt h00
    refine ext_sec _ _ k hL hx ?_
    intro t ht
    rcases left_or d x _ n k keep hd hf hb hn t ht with h | ⟨h, hno⟩
    · exact h
    · rcases Nat.eq_zero_or_pos t with rfl | hp
      · exact h00
      · rw [h]
        by_cases hne : secL d t = secL x t
        · exact hne
        · exfalso
          have hm := chgR_has d x 1 t (k - 1) hp (by omega) hne
          have hnn : chgR d x 1 (k - 1) ≠ [] := by intro e; rw [e] at hm; simp at hm
          obtain ⟨j, hj, e⟩ := mem_index hm
          have ec : changesR d x 1 k = chgR d x 1 (k - 1) ++ [⟨true, 255, []⟩] := by rw [changesR, if_neg hnn]
          have ecl : (changesR d x 1 k).length = (chgR d x 1 (k - 1)).length + 1 := by rw [ec]; simp
          have ej : (twoR d x k).getD j default = ⟨false, t, secL x t⟩ := by
            rw [twoR, getD_left _ _ _ _ (by omega), ec, getD_left _ _ _ _ hj, e]
          have el : (twoR d x k).getD (chgR d x 1 (k - 1)).length default = ⟨true, 255, []⟩ := by
            rw [twoR, getD_left _ _ _ _ (by omega), ec, List.getD_eq_getElem?_getD, List.getElem?_append_right (Nat.le_refl _)]; simp
          refine hno j (by omega) ⟨by rw [ej], written_stopped (by rw [ej]) ?_⟩
          exact stoppedL_hit _ j (chgR d x 1 (k - 1)).length _ hj (by omega) (by rw [el])
  refine ⟨hL, ?_, ?_⟩
  · rcases left_or d x _ n k keep hd hf hb hn 0 (by omega) with h | ⟨h, _⟩
    · by_cases hlt : (changesR d x 1 k).length < n
      · exact .inr (hall hlt h)
      · refine .inl ?_
        rw [leftL_sec d _ n k keep hd hf hn 0 (by omega)]
        have e : ∀ i, i ≤ n → dataF d (twoR d x k) n keep 0 i = secL d 0 := by
          intro i
          induction i with
          | zero => intro _; rfl
          | succ i ih =>
            intro hi
            rw [dataF, if_neg, ih (by omega)]
            rintro ⟨h1, h2⟩
            by_cases hd0 : (twoR d x k).getD i default = default
            · have hm := hto i (by omega)
              rw [hd0] at hm
              have hk' := ok1 _ hm
              rcases hk' with ⟨q, _⟩ | ⟨_, _, _, q⟩
              · cases q
              · cases q
            · exact hno0 i (by omega) hd0 h1
        exact e n (Nat.le_refl _)
    · exact .inl h
  · intro hnn
    refine hall (by omega) ?_
    rcases left_or d x _ n k keep hd hf hb hn 0 (by omega) with h | ⟨_, hno⟩
    · exact h
    · exfalso
      refine hno (changesR d x 1 k).length (by omega) ⟨by rw [g0], written_stopped (by rw [g0]) ?_⟩
      exact stoppedL_hit _ _ ((changesR d x 1 k).length + 1) _ (by omega) (by omega) (by rw [g1])
end Go.Proofs.Ytabpkohcimiceaa
