import Derived.Test.YtabpkohcimiceabPack
import Derived.Test.YtabpkohcimiceabHeldB
namespace Go.Proofs.Ytabpkohcimiceab
set_option maxRecDepth 100000
set_option maxHeartbeats 1000000
open Go.RowKit
set_option linter.unusedVariables false
theorem part_sec (x : List UInt8) (a : Nat) : ∀ n, (x.drop (a * 32)).take ((n + 1) * 32) = (x.drop (a * 32)).take (n * 32) ++ secL x (a + n) := by
  intro n
  rw [show (n + 1) * 32 = n * 32 + 32 by omega, List.take_add, List.drop_drop, secL, show a * 32 + n * 32 = (a + n) * 32 by omega]
theorem part_of_sec (x y : List UInt8) (a : Nat) : ∀ n, (∀ i, i < n → secL x (a + i) = secL y (a + i)) → (x.drop (a * 32)).take (n * 32) = (y.drop (a * 32)).take (n * 32)
  | 0, _ => by simp
  | n + 1, h => by rw [part_sec, part_sec, part_of_sec x y a n (fun i hi => h i (by omega)), h n (by omega)]
theorem take_sec0 (x : List UInt8) : x.take 32 = secL x 0 := by rw [secL]; simp
theorem getD_of_take (x y : List UInt8) (h : x.take 32 = y.take 32) (i : Nat) (hi : i < 32) : x.getD i 0 = y.getD i 0 := by
  have a := getD_tk x 32 i; have b := getD_tk y 32 i
  rw [if_pos hi] at a b
  rw [← a, ← b, h]
theorem changesR_mem (d x : List UInt8) (lo hi : Nat) (h0 : lo ≤ hi) (r : RecM) (hr : r ∈ changesR d x lo hi) : r.stop = true ∨ (r.stop = false ∧ lo ≤ r.to ∧ r.to < hi ∧ r.data = secL x r.to) := by
  rw [changesR] at hr
  by_cases h : chgR d x lo (hi - lo) = []
  · rw [if_pos h] at hr; simp at hr
  · rw [if_neg h] at hr
    rcases List.mem_append.1 hr with h1 | h1
    · obtain ⟨a, b, c, e⟩ := chgR_mem d x lo _ r h1
      exact .inr ⟨a, b, by omega, e⟩
    · rw [List.mem_singleton.1 h1]; exact .inl rfl
theorem left_done (d x : List UInt8) (l : List RecM) (n k : Nat) (keep : List UInt8) (hd : d.length = k * 32) (hf : ∀ r ∈ l, r.fit k) (hb : Brings x l) (hn : n ≤ l.length) (t : Nat) (ht : t < k) (j m : Nat) (hjm : j < m) (hm : m < n)
    (h1 : l.getD j default = ⟨false, t, secL x t⟩) (h2 : (l.getD m default).stop = true) : secL (leftL d l n keep) t = secL x t := by
  rcases left_or d x l n k keep hd hf hb hn t ht with h | ⟨_, hno⟩
  · exact h
  · exact absurd ⟨by rw [h1], written_stopped (by rw [h1]) (stoppedL_hit _ j m _ hjm hm h2)⟩ (hno j (by omega))
theorem left_not (d : List UInt8) (l : List RecM) (n k : Nat) (keep : List UInt8) (hd : d.length = k * 32) (hf : ∀ r ∈ l, r.fit k) (hn : n ≤ l.length) (t : Nat) (ht : t < k)
    (h : ∀ j, j < n → (l.getD j default).to = t → (l.getD j default).stop = true) : secL (leftL d l n keep) t = secL d t := by
  rw [leftL_sec d l n k keep hd hf hn t ht]
  have e : ∀ i, i ≤ n → dataF d l n keep t i = secL d t := by
    intro i
    induction i with
    | zero => intro _; rfl
    | succ i ih =>
      intro hi
      rw [dataF, if_neg, ih (by omega)]
      rintro ⟨h1, h2⟩
      have h3 := h i (by omega) h1
      rw [written_not h2] at h3
      cases h3
  exact e n (Nat.le_refl _)
theorem getD_in {α : Type} (P A Q : List α) (z : α) (i : Nat) (h : i < A.length) : (P ++ A ++ Q).getD (P.length + i) z = A.getD i z := by
  rw [getD_left _ _ _ _ (by rw [List.length_append]; omega), List.getD_eq_getElem?_getD, List.getElem?_append_right (by omega), List.getD_eq_getElem?_getD]
  congr 2; omega
theorem chg_done (d x : List UInt8) (P Q : List RecM) (lo hi n k : Nat) (keep : List UInt8) (hd : d.length = k * 32) (hf : ∀ r ∈ P ++ changesR d x lo hi ++ Q, r.fit k) (hb : Brings x (P ++ changesR d x lo hi ++ Q)) (hn : n ≤ (P ++ changesR d x lo hi ++ Q).length)
    (hge : P.length + (changesR d x lo hi).length ≤ n) (t : Nat) (ht : t < k) (h1 : lo ≤ t) (h2 : t < hi) : secL (leftL d (P ++ changesR d x lo hi ++ Q) n keep) t = secL x t := by
  by_cases hne : secL d t = secL x t
  · rcases left_or d x _ n k keep hd hf hb hn t ht with h | ⟨h, _⟩
    · exact h
    · rw [h, hne]
  · have hm := chgR_has d x lo t (hi - lo) h1 (by omega) hne
    have hnn : chgR d x lo (hi - lo) ≠ [] := by intro e; rw [e] at hm; simp at hm
    obtain ⟨j, hj, e⟩ := mem_index hm
    have ec : changesR d x lo hi = chgR d x lo (hi - lo) ++ [⟨true, 255, []⟩] := by rw [changesR, if_neg hnn]
    have ecl : (changesR d x lo hi).length = (chgR d x lo (hi - lo)).length + 1 := by rw [ec]; simp
    refine left_done d x _ n k keep hd hf hb hn t ht (P.length + j) (P.length + (chgR d x lo (hi - lo)).length) (by omega) (by omega) ?_ ?_
    · rw [getD_in _ _ _ _ _ (by omega), ec, getD_left _ _ _ _ hj, e]
    · rw [getD_in _ _ _ _ _ (by omega), ec, List.getD_eq_getElem?_getD, List.getElem?_append_right (Nat.le_refl _)]; simp
def threeR (d x : List UInt8) (la ha lc hc : Nat) : List RecM := changesR d x la ha ++ changesR d x 0 1 ++ changesR d x lc hc
theorem threeR_ok (d x : List UInt8) (k la ha lc hc : Nat) (hx : x.length = k * 32) (hk0 : 1 ≤ k) (hk : k ≤ 40) (a1 : la ≤ ha) (a2 : ha ≤ k) (c1 : lc ≤ hc) (c2 : hc ≤ k) (hsum : ha - la + (hc - lc) ≤ 80) : (∀ r ∈ threeR d x la ha lc hc, r.ok k) ∧ (threeR d x la ha lc hc).length ≤ 100 := by
  obtain ⟨oka, lena⟩ := changesR_ok d x k la ha hx hk a2 a1
  obtain ⟨ok0, len0⟩ := changesR_ok d x k 0 1 hx hk hk0 (by omega)
  obtain ⟨okc, lenc⟩ := changesR_ok d x k lc hc hx hk c2 c1
  refine ⟨fun r hr => ?_, by rw [threeR, List.length_append, List.length_append]; omega⟩
  rcases List.mem_append.1 hr with h | h
  · rcases List.mem_append.1 h with h | h
    · exact oka r h
    · exact ok0 r h
  · exact okc r h
theorem three_mid (d x : List UInt8) (k la ha lc hc n : Nat) (hd : d.length = k * 32) (hx : x.length = k * 32) (hk0 : 1 ≤ k) (hk : k ≤ 40) (a0 : 1 ≤ la) (a1 : la ≤ ha) (a2 : ha ≤ k) (c0 : 1 ≤ lc) (c1 : lc ≤ hc) (c2 : hc ≤ k) (hdis : ha ≤ lc ∨ hc ≤ la)
    (h0 : secL d 0 ≠ secL x 0) (hrest : ∀ t, t < k → t ≠ 0 → ¬ (la ≤ t ∧ t < ha) → ¬ (lc ≤ t ∧ t < hc) → secL d t = secL x t) (keep : List UInt8) (hn : n ≤ (threeR d x la ha lc hc).length) :
    (leftL d (threeR d x la ha lc hc) n keep).length = k * 32 ∧
    ((secL (leftL d (threeR d x la ha lc hc) n keep) 0 = secL d 0 ∧ ∀ t, lc ≤ t → t < hc → secL (leftL d (threeR d x la ha lc hc) n keep) t = secL d t) ∨
      (secL (leftL d (threeR d x la ha lc hc) n keep) 0 = secL x 0 ∧ ∀ t, la ≤ t → t < ha → secL (leftL d (threeR d x la ha lc hc) n keep) t = secL x t)) ∧
    (n = (threeR d x la ha lc hc).length → leftL d (threeR d x la ha lc hc) n keep = x) := by
  obtain ⟨hok, _⟩ := threeR_ok d x k la ha lc hc hx hk0 hk a1 a2 c1 c2 (by omega)
  have hf := fit_of_ok hok
  have e0 : changesR d x 0 1 = [⟨false, 0, secL x 0⟩, ⟨true, 255, []⟩] := by
    have e : chgR d x 0 (1 - 0) = [⟨false, 0, secL x 0⟩] := by
      show chgR d x 0 1 = _
      rw [chgR, chgR, if_neg (by simpa using h0)]; simp
    rw [changesR, if_neg (by rw [e]; simp), e]; rfl
  have l0 : (changesR d x 0 1).length = 2 := by rw [e0]; rfl
  have hlen : (threeR d x la ha lc hc).length = (changesR d x la ha).length + 2 + (changesR d x lc hc).length := by rw [threeR, List.length_append, List.length_append, l0]
  have hL := leftL_length d _ n k keep hd hf hn
  have hb : Brings x (threeR d x la ha lc hc) := by
    intro r hr hs
    rcases List.mem_append.1 hr with h | h
    · rcases List.mem_append.1 h with h | h
      · rcases changesR_mem d x la ha a1 r h with q | q
        · rw [q] at hs; cases hs
        · exact q.2.2.2
      · rcases changesR_mem d x 0 1 (by omega) r h with q | q
        · rw [q] at hs; cases hs
        · exact q.2.2.2
    · rcases changesR_mem d x lc hc c1 r h with q | q
      · rw [q] at hs; cases hs
      · exact q.2.2.2
  have g0 : (threeR d x la ha lc hc).getD (changesR d x la ha).length default = ⟨false, 0, secL x 0⟩ := by
    have := getD_in (changesR d x la ha) (changesR d x 0 1) (changesR d x lc hc) default 0 (by omega)
    rw [Nat.add_zero] at this
    rw [threeR, this, e0]; rfl
  have g1 : (threeR d x la ha lc hc).getD ((changesR d x la ha).length + 1) default = ⟨true, 255, []⟩ := by
    have := getD_in (changesR d x la ha) (changesR d x 0 1) (changesR d x lc hc) default 1 (by omega)
    rw [threeR, this, e0]; rfl
  have early : ∀ j, j < (changesR d x la ha).length → (threeR d x la ha lc hc).getD j default ∈ changesR d x la ha := by
    intro j hj
    rw [threeR, getD_left _ _ _ _ (by rw [List.length_append]; omega), getD_left _ _ _ _ hj, List.getD_eq_getElem?_getD, List.getElem?_eq_getElem hj]; exact List.getElem_mem hj
  have hA : (changesR d x la ha).length ≤ n → ∀ t, la ≤ t → t < ha → secL (leftL d (threeR d x la ha lc hc) n keep) t = secL x t := by
    intro hge t h1 h2
    have := chg_done d x [] (changesR d x 0 1 ++ changesR d x lc hc) la ha n k keep hd (by rw [List.nil_append, ← List.append_assoc]; exact hf) (by rw [List.nil_append, ← List.append_assoc]; exact hb) (by rw [List.nil_append, ← List.append_assoc]; exact hn) (by simpa using hge) t (by omega) h1 h2
    rw [List.nil_append, ← List.append_assoc] at this
    exact this
  have h0d : (changesR d x la ha).length + 2 ≤ n → secL (leftL d (threeR d x la ha lc hc) n keep) 0 = secL x 0 := by
    intro hge
    exact left_done d x _ n k keep hd hf hb hn 0 (by omega) (changesR d x la ha).length ((changesR d x la ha).length + 1) (by omega) (by omega) g0 (by rw [g1])
  have hold : n ≤ (changesR d x la ha).length + 1 → ∀ t, lc ≤ t → t < hc → secL (leftL d (threeR d x la ha lc hc) n keep) t = secL d t := by
    intro hle t h1 h2
    refine left_not d _ n k keep hd hf hn t (by omega) ?_
    intro j hj ht
    rcases Nat.lt_or_ge j (changesR d x la ha).length with hlt | hge
    · rcases changesR_mem d x la ha a1 _ (early j hlt) with q | q
      · exact q
      · exfalso; omega
    · obtain rfl : j = (changesR d x la ha).length := by omega
      rw [g0] at ht
      have : (0 : Nat) = t := ht
      omega
  refine ⟨hL, ?_, ?_⟩
  · rcases Nat.lt_or_ge n ((changesR d x la ha).length + 2) with hlt | hge
    · rcases left_or d x _ n k keep hd hf hb hn 0 (by omega) with h | ⟨h, _⟩
      · rcases Nat.lt_or_ge n ((changesR d x la ha).length + 1) with hl2 | hg2
        · refine .inl ⟨?_, hold (by omega)⟩
          refine left_not d _ n k keep hd hf hn 0 (by omega) ?_
          intro j hj ht
          rcases changesR_mem d x la ha a1 _ (early j (by omega)) with q | q
          · exact q
          · exfalso; omega
        · exact .inr ⟨h, hA (by omega)⟩
      · exact .inl ⟨h, hold (by omega)⟩
    · exact .inr ⟨h0d hge, hA (by omega)⟩
  · intro hnn
    refine ext_sec _ _ k hL hx ?_
    intro t ht
    by_cases t0 : t = 0
    · subst t0; exact h0d (by omega)
    · by_cases tA : la ≤ t ∧ t < ha
      · exact hA (by omega) t tA.1 tA.2
      · by_cases tC : lc ≤ t ∧ t < hc
        · have hf' := hf; have hb' := hb; have hn' := hn
          have := chg_done d x (changesR d x la ha ++ changesR d x 0 1) [] lc hc n k keep hd (by rw [List.append_nil]; exact hf) (by rw [List.append_nil]; exact hb) (by rw [List.append_nil]; exact hn) (by rw [List.length_append]; omega) t ht tC.1 tC.2
          rw [List.append_nil] at this
          exact this
        · rcases left_or d x _ n k keep hd hf hb hn t ht with h | ⟨h, _⟩
          · exact h
          · rw [h, hrest t ht t0 tA tC]
theorem repair_like {s : StM} (live k : Nat) (h : StOk s) (hk : s.kept.length ≤ s.cap) (hc : s.cap ≤ 30) (hl : live ≤ 1) (hn : 1 + 2 * halfN s.cap ≤ k) (hk40 : k ≤ 40) (hlaw : lawfulL s = true) (y : List UInt8) (hy : y.length = k * 32)
    (h0 : secL y 0 = secL (packL s live (k * 32)) 0) (hs : ∀ t, 1 + live * halfN s.cap ≤ t → t < 1 + live * halfN s.cap + halfN s.cap → secL y t = secL (packL s live (k * 32)) t) : repairR y = (packL s live (k * 32), 0) := by
  obtain ⟨p1, p2, p3, p4⟩ := pack_parts live k h hk hc hl hn; obtain ⟨q1, q2, q3⟩ := pack_held live k h hk hc hl hn hlaw
  have hy0 : y.take 32 = (packL s live (k * 32)).take 32 := by rw [take_sec0, h0, ← take_sec0]
  have x4 := getD_of_take _ _ hy0 4 (by omega)
  have x5 := getD_of_take _ _ hy0 5 (by omega)
  have hlen := packL_length s live k h hk hl hn
  have hfr : fromL (packL s live (k * 32)) = (1 + live * halfN s.cap) * 32 := by rw [fromL, p2, p3, Nat.add_mul, Nat.mul_assoc]
  have hfy : fromL y = (1 + live * halfN s.cap) * 32 := by rw [← hfr, fromL, fromL, x4, x5]
  have hsd : sideOf y = sideOf (packL s live (k * 32)) := by
    rw [sideOf, sideOf, hfy, hfr, x4, p2]
    apply part_of_sec
    intro i hi
    exact hs _ (by omega) (by omega)
  have hox : heldOk y := by
    refine ⟨⟨by omega, by rw [x4]; exact q1.1.2.1, by rw [x5]; exact q1.1.2.2.1, by rw [hy0, x4, x5]; exact q1.1.2.2.2.1, by have q := q1.1.2.2.2.2; rw [hlen] at q; rw [x4, hy]; exact q⟩, ?_⟩
    rw [hsd, x4]; exact q1.2
  have hsS : heldS y = s := by rw [heldS, hsd, x4]; exact q2
  have hlL : liveL y = live := by rw [liveL, x5]; exact q3
  rw [repairR, if_pos (disk_of_len y k hy (by omega) hk40), if_neg (by rw [hy0, p1]; exact top_not _ _), if_pos hox, hsS, hlL, hy]
theorem pack_zero {s : StM} (live k : Nat) (h : StOk s) (hk : s.kept.length ≤ s.cap) (hl : live ≤ 1) (hn : 1 + 2 * halfN s.cap ≤ k) (t : Nat) (ht : t < k) (t0 : t ≠ 0) (hs : ¬ (1 + live * halfN s.cap ≤ t ∧ t < 1 + live * halfN s.cap + halfN s.cap)) : secL (packL s live (k * 32)) t = List.replicate 32 0 := by
  have hx := packL_lay s live (k * 32) h hk; have hsl := sideL_len h hk; have htl := topL_length s.cap live; have hlen := packL_length s live k h hk hl hn
  have hcase : live = 0 ∨ live = 1 := by omega
  apply ext_getD
  · rw [secL_len _ t k hlen ht, List.length_replicate]
  · intro j hj
    rw [secL_len _ t k hlen ht] at hj
    rw [secL_getD _ _ _ hj, getD_rep, hx, fillL]
    rcases hcase with rfl | rfl
    · rw [Nat.zero_mul] at hs
      rw [if_neg (by omega), List.nil_append, getD_app, if_neg (by rw [List.length_append]; omega), getD_rep]
    · rw [Nat.one_mul] at hs
      rw [if_pos rfl, getD_app]
      rcases Nat.lt_or_ge t (1 + halfN s.cap) with hlt | hge
      · rw [if_pos (by rw [List.length_append, List.length_append, List.length_replicate]; omega), getD_app, if_neg (by omega), getD_app, if_pos (by rw [List.length_replicate]; omega), getD_rep]
      · rw [if_neg (by rw [List.length_append, List.length_append, List.length_replicate]; omega), getD_rep]
def rplR (d x : List UInt8) (cap lv : Nat) : List RecM := threeR d x (1 + (1 - lv) * halfN cap) (1 + (1 - lv) * halfN cap + halfN cap) (1 + lv * halfN cap) (1 + lv * halfN cap + halfN cap)
theorem rpl_safe {s s2 : StM} (lv k : Nat) (h : StOk s) (hk : s.kept.length ≤ s.cap) (hc : s.cap ≤ 30) (hl : lv ≤ 1) (hn : 1 + 2 * halfN s.cap ≤ k) (hk40 : k ≤ 40) (hlaw : lawfulL s = true)
    (h2 : StOk s2) (hk2 : s2.kept.length ≤ s2.cap) (hlaw2 : lawfulL s2 = true) (hcap : s2.cap = s.cap) :
    recsL (encL (rplR (packL s lv (k * 32)) (packL s2 (1 - lv) (k * 32)) s.cap lv)) k = some (rplR (packL s lv (k * 32)) (packL s2 (1 - lv) (k * 32)) s.cap lv) ∧
    (∀ kq, leftL (packL s lv (k * 32)) (rplR (packL s lv (k * 32)) (packL s2 (1 - lv) (k * 32)) s.cap lv) (rplR (packL s lv (k * 32)) (packL s2 (1 - lv) (k * 32)) s.cap lv).length kq = packL s2 (1 - lv) (k * 32)) ∧
    ∀ m kq, m ≤ (rplR (packL s lv (k * 32)) (packL s2 (1 - lv) (k * 32)) s.cap lv).length →
      repairR (leftL (packL s lv (k * 32)) (rplR (packL s lv (k * 32)) (packL s2 (1 - lv) (k * 32)) s.cap lv) m kq) = (packL s lv (k * 32), 0) ∨
      repairR (leftL (packL s lv (k * 32)) (rplR (packL s lv (k * 32)) (packL s2 (1 - lv) (k * 32)) s.cap lv) m kq) = (packL s2 (1 - lv) (k * 32), 0) := by
  have hd := packL_length s lv k h hk hl hn
  have hx := packL_length s2 (1 - lv) k h2 hk2 (by omega) (by rw [hcap]; exact hn)
  obtain ⟨p1, p2, p3, p4⟩ := pack_parts lv k h hk hc hl hn
  obtain ⟨r1, r2, r3, r4⟩ := pack_parts (1 - lv) k h2 hk2 (by omega) (by omega) (by rw [hcap]; exact hn)
  have h0 : secL (packL s lv (k * 32)) 0 ≠ secL (packL s2 (1 - lv) (k * 32)) 0 := by
    intro e
    rw [← take_sec0, ← take_sec0] at e
    have := getD_of_take _ _ e 5 (by omega)
    have q := congrArg UInt8.toNat this
    rw [p3, r3] at q
    omega
  have hlv : lv = 0 ∨ lv = 1 := by omega
  have hrest : ∀ t, t < k → t ≠ 0 → ¬ (1 + (1 - lv) * halfN s.cap ≤ t ∧ t < 1 + (1 - lv) * halfN s.cap + halfN s.cap) → ¬ (1 + lv * halfN s.cap ≤ t ∧ t < 1 + lv * halfN s.cap + halfN s.cap) → secL (packL s lv (k * 32)) t = secL (packL s2 (1 - lv) (k * 32)) t := by
    intro t ht t0 ha hc
    rw [pack_zero lv k h hk hl hn t ht t0 hc, pack_zero (1 - lv) k h2 hk2 (by omega) (by rw [hcap]; exact hn) t ht t0 (by rw [hcap]; exact ha)]
  have b1 : 1 + (1 - lv) * halfN s.cap + halfN s.cap ≤ k := by rcases hlv with rfl | rfl <;> omega
  have b2 : 1 + lv * halfN s.cap + halfN s.cap ≤ k := by rcases hlv with rfl | rfl <;> omega
  have b3 : 1 + (1 - lv) * halfN s.cap + halfN s.cap ≤ 1 + lv * halfN s.cap ∨ 1 + lv * halfN s.cap + halfN s.cap ≤ 1 + (1 - lv) * halfN s.cap := by rcases hlv with rfl | rfl <;> omega
  have hmid := fun n kq => three_mid (packL s lv (k * 32)) (packL s2 (1 - lv) (k * 32)) k (1 + (1 - lv) * halfN s.cap) (1 + (1 - lv) * halfN s.cap + halfN s.cap) (1 + lv * halfN s.cap) (1 + lv * halfN s.cap + halfN s.cap) n hd hx (by omega) hk40 (by omega) (by omega) b1 (by omega) (by omega) b2 b3 h0 hrest kq
  obtain ⟨ok, len⟩ := threeR_ok (packL s lv (k * 32)) (packL s2 (1 - lv) (k * 32)) k (1 + (1 - lv) * halfN s.cap) (1 + (1 - lv) * halfN s.cap + halfN s.cap) (1 + lv * halfN s.cap) (1 + lv * halfN s.cap + halfN s.cap) hx (by omega) hk40 (by omega) b1 (by omega) b2 (by omega)
  refine ⟨recsF_enc k _ 100 ok len, fun kq => (hmid _ kq (Nat.le_refl _)).2.2 rfl, ?_⟩
  intro m kq hm
  obtain ⟨g1, g2, _⟩ := hmid m kq hm
  rcases g2 with ⟨u1, u2⟩ | ⟨u1, u2⟩
  · exact .inl (repair_like lv k h hk hc hl hn hk40 hlaw _ g1 u1 u2)
  · refine .inr (repair_like (1 - lv) k h2 hk2 (by omega) (by omega) (by rw [hcap]; exact hn) hk40 hlaw2 _ g1 u1 ?_)
    rw [hcap]; exact u2
end Go.Proofs.Ytabpkohcimiceab
