import Derived.Test.YtabpkohcimiceabPlanA
import Derived.Deep.RegionLaw
namespace Go.Proofs.Ytabpkohcimiceab
set_option maxRecDepth 100000
set_option maxHeartbeats 1000000
open Go.RowKit
set_option linter.unusedVariables false
def putsL (x : List UInt8) : List RecM → List UInt8
  | [] => x
  | r :: q => putsL (putL x r.to r.data) q
def keepsL (keep : List UInt8) (x : List UInt8) : Nat → List RecM → List UInt8
  | _, [] => x
  | i, r :: q => keepsL keep (if keep.getD i 0 = 49 then putL x r.to r.data else x) (i + 1) q
theorem putsL_push (q : List RecM) (r : RecM) : ∀ x, putsL x (q ++ [r]) = putL (putsL x q) r.to r.data := by
  induction q with
  | nil => intro x; rfl
  | cons a q ih => intro x; exact ih _
theorem keepsL_push (keep : List UInt8) (q : List RecM) (r : RecM) : ∀ x i, keepsL keep x i (q ++ [r]) = if keep.getD (i + q.length) 0 = 49 then putL (keepsL keep x i q) r.to r.data else keepsL keep x i q := by
  induction q with
  | nil => intro x i; rfl
  | cons a q ih =>
    intro x i
    show keepsL keep _ (i + 1) (q ++ [r]) = _
    rw [ih, List.length_cons, show i + 1 + q.length = i + (q.length + 1) by omega]
    rfl
def playF (d : List UInt8) (l : List RecM) : Nat → List UInt8 × List RecM
  | 0 => (d, [])
  | i + 1 => if (l.getD i default).stop = true then (putsL (playF d l i).1 (playF d l i).2, []) else ((playF d l i).1, (playF d l i).2 ++ [l.getD i default])
theorem stopped_none (l : List RecM) (i n : Nat) (h : ∀ j, i < j → j < n → (l.getD j default).stop = false) : stoppedL l i n = false := by
  rw [stoppedL, List.any_eq_false]
  intro j hj
  have hjn := List.mem_range.1 hj
  by_cases hij : i < j
  · have := h j hij hjn
    rw [this]; simp
  · simp [hij]
theorem loose_zero (l : List RecM) (i n : Nat) (hi : i < n) (hs : (l.getD i default).stop = true) : ∀ j, j ≤ i → looseL l j n = 0
  | 0, _ => rfl
  | j + 1, h => by
    rw [looseL_succ, loose_zero l i n hi hs j (by omega), stoppedL_hit l j i n (by omega) hi hs, Bool.not_true, Bool.and_false]; rfl
theorem play_run (d : List UInt8) (l : List RecM) (n : Nat) (keep : List UInt8) : ∀ i, i ≤ n →
    ((∃ j, i ≤ j ∧ j < n ∧ (l.getD j default).stop = true) → runF d l n keep i = putsL (playF d l i).1 (playF d l i).2) ∧
    ((∀ j, i ≤ j → j < n → (l.getD j default).stop = false) → runF d l n keep i = keepsL keep (playF d l i).1 0 (playF d l i).2 ∧ looseL l i n = (playF d l i).2.length)
  | 0, _ => ⟨fun _ => rfl, fun _ => ⟨rfl, rfl⟩⟩
  | i + 1, hi => by
    obtain ⟨hF, hL⟩ := play_run d l n keep i (by omega)
    by_cases hs : (l.getD i default).stop = true
    · have hw : writtenL l i n keep = false := by rw [writtenL, hs]; rfl
      have e := hF ⟨i, Nat.le_refl _, by omega, hs⟩
      have hp : playF d l (i + 1) = (putsL (playF d l i).1 (playF d l i).2, []) := by rw [playF, if_pos hs]
      have hr : runF d l n keep (i + 1) = putsL (playF d l i).1 (playF d l i).2 := by rw [runF, hw, if_neg (by simp), e]
      refine ⟨fun _ => by rw [hp, hr]; rfl, fun _ => ⟨by rw [hp, hr]; rfl, ?_⟩⟩
      rw [hp, looseL_succ, loose_zero l i n (by omega) hs i (Nat.le_refl _), hs]; rfl
    · have hs' : (l.getD i default).stop = false := by cases h : (l.getD i default).stop with | true => exact absurd h hs | false => rfl
      have hp : playF d l (i + 1) = ((playF d l i).1, (playF d l i).2 ++ [l.getD i default]) := by rw [playF, if_neg hs]
      refine ⟨?_, ?_⟩
      · rintro ⟨j, h1, h2, h3⟩
        have e := hF ⟨j, by omega, h2, h3⟩
        have hw : writtenL l i n keep = true := written_stopped hs' (stoppedL_hit l i j n (by omega) h2 h3)
        rw [runF, if_pos hw, e, hp, putsL_push]
      · intro hno
        obtain ⟨e1, e2⟩ := hL (fun j h1 h2 => by
          rcases Nat.lt_or_ge i j with h | h
          · exact hno j h h2
          · obtain rfl : j = i := by omega
            exact hs')
        have hst := stopped_none l i n (fun j h1 h2 => hno j h1 h2)
        have hw : writtenL l i n keep = decide (keep.getD (playF d l i).2.length 0 = 49) := by
          rw [writtenL, hs', hst, e2]
          by_cases h : keep.getD (playF d l i).2.length 0 = 49
          · have hlt : (playF d l i).2.length < keep.length := by
              rcases Nat.lt_or_ge (playF d l i).2.length keep.length with q | q
              · exact q
              · rw [getD_out _ _ q] at h; cases h
            rw [decide_eq_true h, decide_eq_true hlt, h]; rfl
          · rw [decide_eq_false h]
            have : (keep.getD (playF d l i).2.length 0 == 49) = false := by rw [beq_eq_false_iff_ne]; exact h
            rw [this]; simp
        refine ⟨?_, ?_⟩
        · rw [runF, hw, hp, keepsL_push, Nat.zero_add, e1]
          by_cases h : keep.getD (playF d l i).2.length 0 = 49
          · rw [if_pos (decide_eq_true h), if_pos h]
          · rw [if_neg (by rw [decide_eq_false h]; simp), if_neg h]
        · rw [hp, looseL_succ, hs', hst, e2, List.length_append]; rfl
theorem play_left (d : List UInt8) (l : List RecM) (n k : Nat) (keep : List UInt8) (hd : d.length = k * 32) (hl : ∀ r ∈ l, r.fit k) (hn : n ≤ l.length) :
    leftL d l n keep = keepsL keep (playF d l n).1 0 (playF d l n).2 := by
  rw [leftL_run d l n k keep hd hl hn]
  exact ((play_run d l n keep n (Nat.le_refl _)).2 (fun j h1 h2 => by omega)).1
theorem encL_le (k : Nat) : ∀ l : List RecM, (∀ r ∈ l, r.ok k) → (encL l).length ≤ l.length * 33
  | [], _ => by simp [encL]
  | r :: l, h => by
    have ih := encL_le k l (fun x hx => h x (List.mem_cons_of_mem _ hx))
    have h1 : (encR r).length ≤ 33 := by
      rw [encR]
      rcases h r List.mem_cons_self with ⟨q, _⟩ | ⟨q, _, _, q2⟩
      · rw [if_pos q]; simp
      · rw [if_neg (by rw [q]; simp)]; simp [q2]
    rw [encL, List.length_append, List.length_cons]; omega
def offL (l : List RecM) (i : Nat) : Nat := (encL (l.take i)).length
theorem encR_len {k : Nat} {r : RecM} (h : r.ok k) : (encR r).length = if r.stop = true then 1 else 33 := by
  rw [encR]
  rcases h with ⟨q, _⟩ | ⟨q, _, _, q2⟩
  · rw [if_pos q, if_pos q]; rfl
  · rw [if_neg (by rw [q]; simp), if_neg (by rw [q]; simp)]; simp [q2]
theorem take_next {α : Type} (l : List α) (z : α) (i : Nat) (h : i < l.length) : l.take (i + 1) = l.take i ++ [l.getD i z] := by
  rw [List.take_succ_eq_append_getElem h, List.getD_eq_getElem?_getD, List.getElem?_eq_getElem h]; rfl
theorem offL_succ (l : List RecM) (i : Nat) (h : i < l.length) : offL l (i + 1) = offL l i + (encR (l.getD i default)).length := by
  rw [offL, take_next l default i h, encL_append, List.length_append]
  show _ + (encR (l.getD i default) ++ []).length = _
  rw [List.append_nil]; rfl
theorem enc_split (l : List RecM) (i : Nat) (h : i < l.length) : encL l = encL (l.take i) ++ (encR (l.getD i default) ++ encL (l.drop (i + 1))) := by
  have e : l = l.take i ++ (l.getD i default :: l.drop (i + 1)) := by
    conv => lhs; rw [← List.take_append_drop i l]
    rw [List.drop_eq_getElem_cons h, List.getD_eq_getElem?_getD, List.getElem?_eq_getElem h]; rfl
  conv => lhs; rw [e]
  rw [encL_append]; rfl
theorem mem_getD {l : List RecM} {i : Nat} (h : i < l.length) : l.getD i default ∈ l := by
  rw [List.getD_eq_getElem?_getD, List.getElem?_eq_getElem h]; exact List.getElem_mem h
theorem at_stop (l : List RecM) (k i : Nat) (hok : ∀ r ∈ l, r.ok k) (h : i < l.length) (hs : (l.getD i default).stop = true) :
    offL l i < (encL l).length ∧ (encL l).getD (offL l i) 0 = 255 ∧ offL l (i + 1) = offL l i + 1 := by
  have hr := encR_len (hok _ (mem_getD h))
  rw [if_pos hs] at hr
  have e := enc_split l i h
  have e2 : encR (l.getD i default) = [255] := by rw [encR, if_pos hs]
  refine ⟨?_, ?_, by rw [offL_succ l i h, hr]⟩
  · rw [e, List.length_append, List.length_append, hr]; show (encL (l.take i)).length < _; omega
  · rw [e, e2, getD_app, if_neg (by show ¬ (encL (l.take i)).length < _; omega)]
    show ([255] ++ _).getD (offL l i - offL l i) 0 = 255
    rw [Nat.sub_self]; rfl
theorem at_write (l : List RecM) (k i : Nat) (hok : ∀ r ∈ l, r.ok k) (h : i < l.length) (hs : (l.getD i default).stop = false) :
    offL l i + 33 ≤ (encL l).length ∧ ((encL l).getD (offL l i) 0).toNat = (l.getD i default).to ∧ (l.getD i default).to < k ∧ (l.getD i default).to < 255 ∧ (l.getD i default).data.length = 32 ∧ ((encL l).drop (offL l i + 1)).take 32 = (l.getD i default).data ∧ offL l (i + 1) = offL l i + 33 := by
  have hr := encR_len (hok _ (mem_getD h))
  rw [if_neg (by rw [hs]; simp)] at hr
  have e := enc_split l i h
  have e2 : encR (l.getD i default) = UInt8.ofNat (l.getD i default).to :: (l.getD i default).data := by rw [encR, if_neg (by rw [hs]; simp)]
  rcases hok _ (mem_getD h) with ⟨q, _⟩ | ⟨_, q1, q2, q3⟩
  · rw [q] at hs; cases hs
  · refine ⟨?_, ?_, q1, q2, q3, ?_, by rw [offL_succ l i h, hr]⟩
    · rw [e, List.length_append, List.length_append, hr]; show (encL (l.take i)).length + 33 ≤ _; omega
    · rw [e, e2, getD_app, if_neg (by show ¬ (encL (l.take i)).length < _; omega)]
      show ((UInt8.ofNat (l.getD i default).to :: ((l.getD i default).data ++ encL (l.drop (i + 1)))).getD (offL l i - offL l i) 0).toNat = _
      rw [Nat.sub_self]
      show (UInt8.ofNat (l.getD i default).to).toNat = _
      rw [UInt8.toNat_ofNat']; omega
    · rw [e, e2, ← List.drop_drop, List.drop_left' (show (encL (l.take i)).length = offL l i from rfl)]
      show (((l.getD i default).data ++ encL (l.drop (i + 1)))).take 32 = _
      exact List.take_left' q3
theorem offL_end (l : List RecM) : offL l l.length = (encL l).length := by rw [offL, List.take_length]
theorem keepPut_any (d x : ByteArray) (n k : Nat) (w : World) (hd : d.size = k * 32) (hk : k ≤ 1000) (hn : n < k) (hx : x.size = 32) :
    Calls Try.prog 62 #[.string d, .agg #[.int .i64 n, .string x]] w fun e w' => e = .returned (.string (str (putL d.data.toList n x.data.toList))) ∧ Below w.heap.size w w' := by
  have hI : (n : Int) < (k : Int) := by omega
  have j1 : (n : Int) * 32 ≤ (k : Int) * 32 := by omega
  have j2 : (n : Int) * 32 + 32 ≤ (k : Int) * 32 := by omega
  have m1 : n * 32 ≤ k * 32 := by omega
  have m2 : n * 32 + 32 ≤ k * 32 := by omega
  go_enter Try.func62, Try.ntmps62
  go_upto_region 2 with fail
  go_region
  go_wp2; go_ret
  refine ⟨?_, ?_⟩
  · rw [← put_ext, hd]
    rfl
  · repeat (first | exact Below.refl _ _ | apply Below.drew | (refine Below.alloc ?_ (by first | exact Nat.le_refl _ | (simp; done)) _))
theorem counted_any (d : ByteArray) (l : List RecM) (k : Nat) (w : World) (hd : d.size = k * 32) (hk : k ≤ 40) (hok : ∀ r ∈ l, r.ok k) (hl : l.length ≤ 100) :
    Calls Try.prog 40 #[.string d, .string (str (encL l))] w fun e w' => e = .returned (.int .i64 l.length) ∧ w' = w := by
  have hel := encL_le k l hok
  obtain ⟨p, hp⟩ : ∃ p, p = str (encL l) := ⟨_, rfl⟩
  have hps : p.size = (encL l).length := by rw [hp, str_size]
  have hpl : p.data.toList = encL l := by rw [hp, str_toList]
  rw [← hp]; clear hp
  have hpm : p.size ≤ 3300 := by omega
  go_enter Try.func40, Try.ntmps40
  go_wp2
  go_loopg [5, 6] 200 (fun g n a wr => ∃ i o : Nat, n = .int .i64 i ∧ a = .int .i64 o ∧ i ≤ l.length ∧ g + i = 200 ∧ o = offL l i ∧ wr = w)
  case atStart => exact ⟨0, 0, rfl, rfl, by omega, by omega, rfl, rfl⟩
  case round =>
    obtain ⟨i, o, rfl, rfl, hi, hg, ho, rfl⟩ := hrel
    by_cases hlt : i < l.length
    · have i100 : ¬ (i : Int) = 100 := by omega
      cases hs : (l.getD i default).stop with
      | true =>
        obtain ⟨q1, q2, q3⟩ := at_stop l k i hok hlt hs
        have HO : Hid (o + 1 = offL l (i + 1)) := by
          show _ = _
          rw [q3, ho]
        rw [← ho, ← hps] at q1
        rw [← hpl, ← ho, getD_at p o q1] at q2
        have n255 : (p[o].toNat : Int) = 255 := by rw [q2]; rfl
        have oI : (o : Int) < (p.size : Int) := by omega
        clear ho q2 q3 hs; go_wp2
        go_roundg (gk - 1)
        case measure => omega
        case rel => exact ⟨i + 1, o + 1, by simp, by simp, by omega, by omega, HO.out, rfl⟩
      | false =>
        obtain ⟨q1, q2, q3, q4, q5, q6, q7⟩ := at_write l k i hok hlt hs
        have HO : Hid (o + 33 = offL l (i + 1)) := by
          show _ = _
          rw [q7, ho]
        rw [← ho, ← hps] at q1
        have q8 : o < p.size := by omega
        rw [← hpl, ← ho, getD_at p o q8] at q2
        generalize (l.getD i default).to = tt at *
        have n255 : ¬ (p[o].toNat : Int) = 255 := by omega
        have oI : (o : Int) < (p.size : Int) := by omega
        have tI : ¬ (k : Int) ≤ (p[o].toNat : Int) := by omega
        have sI : ¬ (p.size : Int) - (o : Int) ≤ 32 := by omega
        have b8 := p[o].toNat_lt; clear ho q6 q7 hs q2; go_wp2
        go_roundg (gk - 1)
        case measure => omega
        case rel => exact ⟨i + 1, o + 33, by simp, congrArg (Value.int .i64) (by omega), by omega, by omega, HO.out, rfl⟩
    · obtain rfl : i = l.length := by omega
      rw [offL_end, ← hps] at ho
      have oI : ¬ (o : Int) < (p.size : Int) := by omega
      go_wp2; go_ret; exact ⟨rfl, rfl⟩
theorem Try.infoLoose : (Try.prog.info? 120).map (fun i => (i.zero, i.size, i.bytes)) = some (some (.agg #[.int .i64 0, .string ⟨#[]⟩]), 2, 24) := by kernel_rfl
def looseCells : List RecM → List Value
  | [] => []
  | r :: l => [.int .i64 r.to, .string (str r.data)] ++ looseCells l
theorem looseCells_push (q : List RecM) (r : RecM) : looseCells (q ++ [r]) = looseCells q ++ [.int .i64 r.to, .string (str r.data)] := by
  induction q with
  | nil => rfl
  | cons a q ih => rw [List.cons_append, looseCells, looseCells, ih, List.append_assoc]
theorem looseCells_at : ∀ (a : List RecM) (j : Nat), j < a.length → (looseCells a)[j * 2]? = some (.int .i64 ((a.getD j default).to : Int)) ∧ (looseCells a)[j * 2 + 1]? = some (.string (str (a.getD j default).data))
  | r :: a, 0, _ => ⟨rfl, rfl⟩
  | r :: a, j + 1, h => by
    obtain ⟨h1, h2⟩ := looseCells_at a j (by simpa using h)
    refine ⟨?_, ?_⟩
    · rw [show (j + 1) * 2 = j * 2 + 2 by omega]; exact h1
    · rw [show (j + 1) * 2 + 1 = (j * 2 + 1) + 2 by omega]; exact h2
def LooseAt (w : World) (v : Value) (q : List RecM) : Prop :=
  (v = .slice none 0 0 ∧ q = []) ∨ ∃ g cap, v = .slice (some ⟨g, 0, none⟩) q.length cap ∧ q.length ≤ cap ∧ g < w.heap.size ∧
    ∀ j, j < q.length → w.cell? ⟨g, j * 2, none⟩ = some (.int .i64 ((q.getD j default).to : Int)) ∧ w.cell? ⟨g, j * 2 + 1, none⟩ = some (.string (str (q.getD j default).data))
theorem LooseAt.of_own {w : World} {base : Nat} {e : TypeId} {v : Value} {q : List RecM} (h : w.ownsRow base e 2 v q.length (looseCells q)) : LooseAt w v q := by
  rcases h.2 with ⟨rfl, h0⟩ | ⟨g, cap, cur, hv, hg, hgg, hn, _, _, _⟩
  · exact .inl ⟨rfl, List.eq_nil_of_length_eq_zero h0⟩
  · refine .inr ⟨g, cap, hv, hn, (h.lt g (by rw [hv]; rfl)).2, fun j hj => ?_⟩
    obtain ⟨a, b⟩ := looseCells_at q j hj; subst hv
    refine ⟨?_, ?_⟩
    · rw [h.cellAt (j * 2) (by omega)]; exact a
    · rw [h.cellAt (j * 2 + 1) (by omega)]; exact b
theorem LooseAt.next {w w' : World} {v : Value} {q : List RecM} (h : LooseAt w v q) (hb : Below w.heap.size w w') : LooseAt w' v q := by
  rcases h with h | ⟨g, cap, h1, h2, h3, h4⟩
  · exact .inl h
  · refine .inr ⟨g, cap, h1, h2, Nat.lt_of_lt_of_le h3 hb.size, fun j hj => ?_⟩
    obtain ⟨a, b⟩ := h4 j hj; exact ⟨(hb.cell (p := ⟨g, j * 2, none⟩) h3).trans a, (hb.cell (p := ⟨g, j * 2 + 1, none⟩) h3).trans b⟩
theorem LooseAt.form {w : World} {v : Value} {q : List RecM} (h : LooseAt w v q) : ∃ a cap, v = .slice a q.length cap := by
  rcases h with ⟨h1, h2⟩ | ⟨g, cap, h1, _⟩
  · exact ⟨none, 0, by rw [h1, h2]; rfl⟩
  · exact ⟨_, cap, h1⟩
theorem LooseAt.cells {w : World} {v : Value} {q : List RecM} (h : LooseAt w v q) {j : Nat} (hj : j < q.length) : ∃ g cap, v = .slice (some ⟨g, 0, none⟩) q.length cap ∧ q.length ≤ cap ∧ w.cell? ⟨g, j * 2, none⟩ = some (.int .i64 ((q.getD j default).to : Int)) ∧ w.cell? ⟨g, j * 2 + 1, none⟩ = some (.string (str (q.getD j default).data)) := by
  rcases h with ⟨_, rfl⟩ | ⟨g, cap, h1, h2, h3, h4⟩
  · simp at hj
  · exact ⟨g, cap, h1, h2, h4 j hj⟩
def FitsL (k : Nat) (q : List RecM) : Prop := ∀ r ∈ q, r.to < k ∧ r.data.length = 32
theorem putsL_length (k : Nat) : ∀ (q : List RecM) (x : List UInt8), x.length = k * 32 → FitsL k q → (putsL x q).length = k * 32
  | [], x, h, _ => h
  | r :: q, x, h, hf => putsL_length k q _ (putL_length x r.to r.data k h (hf r List.mem_cons_self).1 (hf r List.mem_cons_self).2) (fun z hz => hf z (List.mem_cons_of_mem _ hz))
theorem putsL_take (x : List UInt8) (q : List RecM) (j : Nat) (h : j < q.length) : putsL x (q.take (j + 1)) = putL (putsL x (q.take j)) (q.getD j default).to (q.getD j default).data := by
  rw [take_next q default j h, putsL_push]
theorem FitsL.take {k : Nat} {q : List RecM} (h : FitsL k q) (j : Nat) : FitsL k (q.take j) := fun r hr => h r (List.mem_of_mem_take hr)
theorem FitsL.at {k : Nat} {q : List RecM} (h : FitsL k q) {j : Nat} (hj : j < q.length) : (q.getD j default).to < k ∧ (q.getD j default).data.length = 32 := h _ (mem_getD hj)
theorem play_fit (d : List UInt8) (l : List RecM) (k : Nat) (hd : d.length = k * 32) (hok : ∀ r ∈ l, r.ok k) : ∀ i, i ≤ l.length → (playF d l i).1.length = k * 32 ∧ FitsL k (playF d l i).2 ∧ (playF d l i).2.length ≤ i
  | 0, _ => ⟨hd, fun r hr => by simp [playF] at hr, Nat.le_refl _⟩
  | i + 1, hi => by
    obtain ⟨h1, h2, h3⟩ := play_fit d l k hd hok i (by omega)
    rw [playF]
    by_cases hs : (l.getD i default).stop = true
    · rw [if_pos hs]
      exact ⟨putsL_length k _ _ h1 h2, fun r hr => by simp at hr, Nat.zero_le _⟩
    · rw [if_neg hs]
      refine ⟨h1, fun r hr => ?_, by rw [List.length_append]; simp; omega⟩
      rcases List.mem_append.1 hr with hr | hr
      · exact h2 r hr
      · rw [List.mem_singleton.1 hr]
        rcases hok _ (mem_getD (show i < l.length by omega)) with ⟨q, _⟩ | ⟨_, q1, _, q3⟩
        · exact absurd q hs
        · exact ⟨q1, q3⟩
def keepsN (keep x : List UInt8) (q : List RecM) : List UInt8 := keepsL keep x 0 q
theorem keepsN_length (k : Nat) (keep x : List UInt8) (q : List RecM) (hx : x.length = k * 32) (hf : FitsL k q) : ∀ j, j ≤ q.length → (keepsN keep x (q.take j)).length = k * 32
  | 0, _ => hx
  | j + 1, hj => by
    have ih := keepsN_length k keep x q hx hf j (by omega)
    rw [take_next q default j (by omega), keepsN, keepsL_push]
    split
    · exact putL_length _ _ _ k ih (hf.at (by omega)).1 (hf.at (by omega)).2
    · exact ih
theorem keepsN_take (keep x : List UInt8) (q : List RecM) (j : Nat) (h : j < q.length) : keepsN keep x (q.take (j + 1)) = if keep.getD j 0 = 49 then putL (keepsN keep x (q.take j)) (q.getD j default).to (q.getD j default).data else keepsN keep x (q.take j) := by
  rw [take_next q default j h, keepsN, keepsL_push, Nat.zero_add, List.length_take, Nat.min_eq_left (by omega)]; rfl
set_option maxHeartbeats 2000000 in
theorem played_any (d : ByteArray) (l : List RecM) (n k : Nat) (kp : ByteArray) (w : World) (hd : d.size = k * 32) (hk : k ≤ 40) (hok : ∀ r ∈ l, r.ok k) (hl : l.length ≤ 100) (hn : n ≤ l.length) (hkp : kp.size ≤ maxLen) :
    Calls Try.prog 41 #[.string d, .string (str (encL l)), .int .i64 n, .string kp] w fun e w' => e = .returned (.string (str (leftL d.data.toList l n kp.data.toList))) ∧ Below w.heap.size w w' := by
  obtain ⟨i0, hi0, hz0, hz1, hz2⟩ := info_parts Try.infoLoose
  have hdl : d.data.toList.length = k * 32 := by rw [len_list]; exact hd
  rw [play_left d.data.toList l n k kp.data.toList hdl (fit_of_ok hok) hn]; have hel := encL_le k l hok
  obtain ⟨p, hp⟩ : ∃ p, p = str (encL l) := ⟨_, rfl⟩
  have hps : p.size = (encL l).length := by rw [hp, str_size]
  have hpl : p.data.toList = encL l := by rw [hp, str_toList]
  rw [← hp]; clear hp
  have hpm : p.size ≤ 3300 := by omega
  have HPS : Hid (p.size = (encL l).length) := hps; have HPL : Hid (p.data.toList = encL l) := hpl; clear hps hpl hel; have HF : Hid (∀ i, i ≤ l.length → (playF d.data.toList l i).1.length = k * 32 ∧ FitsL k (playF d.data.toList l i).2 ∧ (playF d.data.toList l i).2.length ≤ i) := play_fit d.data.toList l k hdl hok
  go_enter Try.func41, Try.ntmps41
  go_wp2
  go_loopg [0, 9, 10, 11, 12] 200 (fun g x v a c z wr => ∃ i o : Nat, ∃ y : ByteArray, x = .string y ∧ c = .int .i64 i ∧ a = .int .i64 o ∧ i ≤ n ∧ g + i = 200 ∧ o = offL l i ∧ y = str (playF d.data.toList l i).1 ∧ wr.ownsRow w.heap.size 120 2 v (playF d.data.toList l i).2.length (looseCells (playF d.data.toList l i).2) ∧ Below w.heap.size w wr)
  case atStart => exact ⟨0, 0, _, rfl, rfl, rfl, by omega, by omega, rfl, (str_of d).symm, ⟨rfl, .inl ⟨rfl, rfl⟩⟩, Below.refl _ _⟩
  case round =>
    obtain ⟨i, o, y, rfl, rfl, rfl, hi, hg, ho, hy, hown, hb⟩ := hrel
    obtain ⟨f1, f2, f3⟩ := HF.out i (by omega)
    have hsz := hb.size; have hla := LooseAt.of_own hown; have HY : Hid (y = str (playF d.data.toList l i).1) := hy; clear hy
    obtain ⟨gko, rfl⟩ : ∃ x : Nat, x = gk := ⟨_, rfl⟩
    have HB := hid hb; clear hb
    by_cases hlt : i < n
    · have iI : (i : Int) < (n : Int) := by omega
      cases hs : (l.getD i default).stop with
      | true =>
        obtain ⟨q1, q2, q3⟩ := at_stop l k i hok (by omega) hs
        have HP : Hid (playF d.data.toList l (i + 1) = (putsL (playF d.data.toList l i).1 (playF d.data.toList l i).2, [])) := by
          show _ = _
          rw [playF, if_pos hs]
        have HO : Hid (o + 1 = offL l (i + 1)) := by
          show _ = _
          rw [q3, ho]
        rw [← ho, ← HPS.out] at q1
        rw [← HPL.out, ← ho, getD_at p o q1] at q2
        have n255 : (p[o].toNat : Int) = 255 := by rw [q2]; rfl
        have oI : (o : Int) < (p.size : Int) := by omega
        clear ho q2 q3 hs hown
        obtain ⟨xx, hxx⟩ : ∃ xx, xx = (playF d.data.toList l i).1 := ⟨_, rfl⟩
        obtain ⟨qq, hqq⟩ : ∃ qq, qq = (playF d.data.toList l i).2 := ⟨_, rfl⟩
        rw [← hxx] at f1 HY HP
        rw [← hqq] at f2 f3 hla HP
        clear hxx hqq; obtain ⟨va, vc, hv⟩ := hla.form; subst hv
        obtain ⟨wo, rfl⟩ : ∃ wo : World, wo = wr := ⟨_, rfl⟩
        go_wp2
        go_loopg [0, 12] (qq.length + 1) (fun g x z wr2 => ∃ j : Nat, ∃ y : ByteArray, x = .string y ∧ z = .int .i64 j ∧ j ≤ qq.length ∧ g + j = qq.length + 1 ∧ y.size = k * 32 ∧ y = str (putsL xx (qq.take j)) ∧ Below wo.heap.size wo wr2)
        case atStart => exact ⟨0, _, rfl, rfl, by omega, by omega, by rw [HY.out, str_size]; exact f1, by rw [HY.out]; rfl, Below.refl _ _⟩
        case round =>
          obtain ⟨j, y2, rfl, rfl, hj, hg2, hys, hy2, hb2⟩ := hrel; have HB2 := hid hb2; have hla2 := hla.next hb2
          by_cases hjl : j < qq.length
          · obtain ⟨g0, cap0, hv0, hc0, c0, c1⟩ := hla2.cells hjl
            injection hv0 with e1 e2 e3
            subst e1 e3
            have hjI : (j : Int) < (qq.length : Int) := by omega
            obtain ⟨u1, u2⟩ := f2.at hjl
            have HT : Hid (str (putsL xx (qq.take (j + 1))) = str (putL (putsL xx (qq.take j)) (qq.getD j default).to (qq.getD j default).data)) := by
              show _ = _
              rw [putsL_take xx qq j hjl]
            have hlen2 : (putsL xx (qq.take (j + 1))).length = k * 32 := putsL_length k _ _ f1 (f2.take _)
            have cp := fun w => keepPut_any y2 (str (qq.getD j default).data) (qq.getD j default).to k w hys (by omega) u1 (by rw [str_size]; exact u2)
            have hyl : y2.data.toList = putsL xx (qq.take j) := by rw [hy2, str_toList]
            rw [hyl, str_toList, ← HT.out] at cp
            generalize qq.getD j default = en at *
            clear hla2 hb2 hy2 hyl
            go_wp2_with (first | (go_at_call 62; (with_reducible refine (cp _).mono ?_); rintro e w3 ⟨rfl, hb3⟩))
            go_roundg (gk - 1)
            case measure => omega
            case rel => exact ⟨j + 1, _, rfl, by simp, by omega, by omega, by rw [str_size]; exact hlen2, rfl, below_tr HB2.out hb3⟩
          · obtain rfl : j = qq.length := by omega
            rw [List.take_length] at hy2
            have HY2 : Hid (y2 = str (putsL xx qq)) := hy2; clear hla2 hb2 hy2; go_wp2
            go_roundg (gko - 1)
            case measure => omega
            case rel => exact ⟨i + 1, o + 1, y2, rfl, by simp, by simp, by omega, by omega, HO.out, by rw [HP.out]; exact HY2.out, by rw [HP.out]; exact ⟨rfl, .inl ⟨rfl, rfl⟩⟩, below_tr HB.out HB2.out⟩
      | false =>
        obtain ⟨q1, q2, q3, q4, q5, q6, q7⟩ := at_write l k i hok (by omega) hs
        have HP : Hid (playF d.data.toList l (i + 1) = ((playF d.data.toList l i).1, (playF d.data.toList l i).2 ++ [l.getD i default])) := by
          show _ = _
          rw [playF, if_neg (by rw [hs]; simp)]
        have HO : Hid (o + 33 = offL l (i + 1)) := by
          show _ = _
          rw [q7, ho]
        rw [← ho, ← HPS.out] at q1
        have q8 : o < p.size := by omega
        rw [← HPL.out, ← ho, getD_at p o q8] at q2
        rw [← HPL.out, ← ho] at q6
        have HX : Hid (p.extract (o + 1) (o + 1 + 32) = str (l.getD i default).data) := by
          show _ = _
          rw [part_ext, q6]
        obtain ⟨xx, hxx⟩ : ∃ xx, xx = (playF d.data.toList l i).1 := ⟨_, rfl⟩
        obtain ⟨qq, hqq⟩ : ∃ qq, qq = (playF d.data.toList l i).2 := ⟨_, rfl⟩
        rw [← hxx] at f1 HY HP
        rw [← hqq] at f2 f3 hown hla HP
        clear hxx hqq
        have HT : Hid ((p[o].toNat : Int) = ((l.getD i default).to : Int)) := by
          show _ = _
          omega
        generalize l.getD i default = en at *
        have n255 : ¬ (p[o].toNat : Int) = 255 := by omega
        have oI : (o : Int) < (p.size : Int) := by omega
        have s1 : (o : Int) + 1 ≤ (p.size : Int) := by omega
        have s2 : (o : Int) + 1 + 32 ≤ (p.size : Int) := by omega
        have m1 : o + 1 ≤ p.size := by omega
        have s3 : (o : Int) + 33 ≤ (p.size : Int) := by omega
        have m3 : o + 33 ≤ p.size := by omega
        have s4 : (0 : Int) ≤ (o : Int) + 1 := by omega
        have s6 : (0 : Int) ≤ (o : Int) + 1 + 32 := by omega
        have s7 : (o : Int) + 1 ≤ (o : Int) + 1 + 32 := by omega
        have t1 : ((o : Int) + 1 + 32).toNat = o + 1 + 32 := by omega
        have s5 : (0 : Int) ≤ (o : Int) := by omega
        have m2 : o + 1 + 32 ≤ p.size := by omega
        have b8 := p[o].toNat_lt
        have v0 : IntKind.i64.wrap (p[o].toNat : Int) = (p[o].toNat : Int) := by rw [IntKind.wrap_i64]; omega
        have v1 : IntKind.i64.wrap ((o : Int) + 1) = (o : Int) + 1 := by rw [IntKind.wrap_i64]; omega
        have v2 : IntKind.i64.wrap ((o : Int) + 1 + 32) = (o : Int) + 1 + 32 := by rw [IntKind.wrap_i64]; omega
        obtain ⟨va, vc, hv⟩ := hla.form; subst hv; clear ho q6 q7 hs q2 q3 q4 hla
        go_upto_region 7 with fail
        go_region_law (refine step_append_lies _ (by rfl) _ _ _ (by rfl) w.heap.size 120 i0 _ 2 24 Try.underlying118 hi0 hz0 hz1 hz2 rfl (by omega) (.slice va qq.length vc) qq.length (looseCells qq) (by rfl) ((hown.alloc _).drew) ⟨wr.heap.size, 0, none⟩ 1 1 [.int .i64 (p[o].toNat : Int), .string (p.extract (o + 1) (o + 1 + 32))] (by rfl) (by rfl) (World.news_of_block (cs := #[.int .i64 (p[o].toNat : Int), .string (p.extract (o + 1) (o + 1 + 32))]) (t := 120) (fr := (0, 0)) (heap_alloc_new wr _)) (by simp [Value.oneCell']) (by omega) (by unfold maxLen; omega) (by omega) (by simp; omega) (wr.heap.size + 1) (by simp) ?_; intro g2 cap2 w2 hown2 hgrow hat hlt2)
        all_goals go_wp2
        all_goals go_roundg (gko - 1)
        all_goals first
          | omega
          | skip
        all_goals refine ⟨i + 1, o + 33, y, rfl, by simp, congrArg (Value.int .i64) (by omega), by omega, by omega, HO.out, by rw [HP.out]; exact HY.out, ?_, ?_⟩
        all_goals first
          | (rw [HP.out]
             show w2.ownsRow w.heap.size 120 2 _ (qq ++ [en]).length (looseCells (qq ++ [en]))
             rw [looseCells_push, ← HT.out, ← HX.out, List.length_append]; exact hown2)
          | exact grown_below ((HB.out.alloc hsz _).drew) ((hown.alloc _).drew) hgrow
    · obtain rfl : i = n := by omega
      have iI : ¬ (i : Int) < (i : Int) := by omega
      obtain ⟨xx, hxx⟩ : ∃ xx, xx = (playF d.data.toList l i).1 := ⟨_, rfl⟩
      obtain ⟨qq, hqq⟩ : ∃ qq, qq = (playF d.data.toList l i).2 := ⟨_, rfl⟩
      have HR : Hid (keepsL kp.data.toList (playF d.data.toList l i).1 0 (playF d.data.toList l i).2 = keepsN kp.data.toList xx qq) := by
        show _ = _
        rw [hxx, hqq, keepsN]
      rw [← hxx] at f1 HY
      rw [← hqq] at f2 f3 hla hown
      clear hxx hqq hown ho; obtain ⟨va, vc, hv⟩ := hla.form; subst hv
      unfold maxLen at hkp
      obtain ⟨wo, rfl⟩ : ∃ wo : World, wo = wr := ⟨_, rfl⟩
      go_wp2
      go_loopg [0, 13] (qq.length + 1) (fun g x z wr2 => ∃ j : Nat, ∃ y : ByteArray, x = .string y ∧ z = .int .i64 j ∧ j ≤ qq.length ∧ g + j = qq.length + 1 ∧ y.size = k * 32 ∧ y = str (keepsN kp.data.toList xx (qq.take j)) ∧ Below wo.heap.size wo wr2)
      case atStart => exact ⟨0, _, rfl, rfl, by omega, by omega, by rw [HY.out, str_size]; exact f1, by rw [HY.out]; rfl, Below.refl _ _⟩
      case round =>
        obtain ⟨j, y2, rfl, rfl, hj, hg2, hys, hy2, hb2⟩ := hrel; have HB2 := hid hb2; have hla2 := hla.next hb2
        by_cases hjl : j < qq.length
        · obtain ⟨g0, cap0, hv0, hc0, c0, c1⟩ := hla2.cells hjl
          injection hv0 with e1 e2 e3
          subst e1 e3
          have hjI : (j : Int) < (qq.length : Int) := by omega
          obtain ⟨u1, u2⟩ := f2.at hjl; have hT := keepsN_take kp.data.toList xx qq j hjl
          have hlen2 := keepsN_length k kp.data.toList xx qq f1 f2 (j + 1) (by omega)
          have hyl : y2.data.toList = keepsN kp.data.toList xx (qq.take j) := by rw [hy2, str_toList]
          by_cases hkeep : kp.data.toList.getD j 0 = 49
          · have hjk : j < kp.size := by
              rcases Nat.lt_or_ge j kp.size with q | q
              · exact q
              · rw [getD_out _ _ (by rw [len_list]; exact q)] at hkeep; cases hkeep
            rw [if_pos hkeep] at hT
            rw [getD_at kp j hjk] at hkeep
            have k49 : (kp[j].toNat : Int) = 49 := by rw [hkeep]; rfl
            have jkI : (j : Int) < (kp.size : Int) := by omega
            have HT : Hid (str (keepsN kp.data.toList xx (qq.take (j + 1))) = str (putL (keepsN kp.data.toList xx (qq.take j)) (qq.getD j default).to (qq.getD j default).data)) := by
              show _ = _
              rw [hT]
            have cp := fun w => keepPut_any y2 (str (qq.getD j default).data) (qq.getD j default).to k w hys (by omega) u1 (by rw [str_size]; exact u2)
            rw [hyl, str_toList, ← HT.out] at cp
            generalize qq.getD j default = en at *
            clear hla2 hb2 hy2 hyl hT hkeep
            go_wp2_with (first | (go_at_call 62; (with_reducible refine (cp _).mono ?_); rintro e w3 ⟨rfl, hb3⟩))
            go_roundg (gk - 1)
            case measure => omega
            case rel => exact ⟨j + 1, _, rfl, by simp, by omega, by omega, by rw [str_size]; exact hlen2, rfl, below_tr HB2.out hb3⟩
          · rw [if_neg hkeep] at hT
            have HT : Hid (y2 = str (keepsN kp.data.toList xx (qq.take (j + 1)))) := by
              show _ = _
              rw [hT, hy2]
            by_cases hjk : j < kp.size
            · rw [getD_at kp j hjk] at hkeep
              have k49 : ¬ (kp[j].toNat : Int) = 49 := by
                intro q
                apply hkeep
                apply UInt8.toNat_inj.1
                have : (49 : UInt8).toNat = 49 := rfl
                omega
              have jkI : (j : Int) < (kp.size : Int) := by omega
              clear hla2 hb2 hy2 hyl hT hkeep; go_wp2
              go_roundg (gk - 1)
              case measure => omega
              case rel => exact ⟨j + 1, y2, rfl, by simp, by omega, by omega, hys, HT.out, HB2.out⟩
            · have jkI : ¬ (j : Int) < (kp.size : Int) := by omega
              clear hla2 hb2 hy2 hyl hT hkeep; go_wp2
              go_roundg (gk - 1)
              case measure => omega
              case rel => exact ⟨j + 1, y2, rfl, by simp, by omega, by omega, hys, HT.out, HB2.out⟩
        · obtain rfl : j = qq.length := by omega
          rw [List.take_length] at hy2
          have HY2 : Hid (y2 = str (keepsN kp.data.toList xx qq)) := hy2; clear hla2 hb2 hy2; go_wp2; go_ret
          refine ⟨?_, below_tr HB.out HB2.out⟩
          rw [HR.out, ← HY2.out]
          rfl
end Go.Proofs.Ytabpkohcimiceab
