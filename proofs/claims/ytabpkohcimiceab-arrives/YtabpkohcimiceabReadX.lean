import Derived.Test.YtabpkohcimiceabRightB
import Derived.Test.YtabpkohcimiceabHeldB
namespace Go.Proofs.Ytabpkohcimiceab
set_option maxRecDepth 100000
set_option maxHeartbeats 1000000
open Go.RowKit
set_option linter.unusedVariables false
theorem Try.infoKept : (Try.prog.info? 142).map (fun i => (i.zero, i.size, i.bytes)) = some (some (.agg #[.int .i64 0, .int .i64 0, .string ⟨#[]⟩]), 3, 32) := by kernel_rfl
set_option maxHeartbeats 2000000 in
theorem isRight_any (s : StM) (v : Value) (w : World) (hs : StOk s) (hv : EntsAt w v s.kept) :
    Calls Try.prog 102 #[.agg (stCells s v)] w fun e w' => e = .returned (.bool (isRightB s)) ∧ Below w.heap.size w w' := by
  obtain ⟨a, cap, hva⟩ := hv.form; subst hva
  have c1 := fun w => numbersRight_any s (.slice a s.kept.length cap) w
  have c2 := fun w => beginRight_any s (.slice a s.kept.length cap) w
  have c3 := fun w h => keptRight_any s (.slice a s.kept.length cap) w hs h
  have hst := StAt.madeD w s (.slice a s.kept.length cap); have hbl : Below w.heap.size w (w.alloc (.cells (stCells s (.slice a s.kept.length cap)) 84)) := (Below.refl _ _).alloc (Nat.le_refl _) _
  obtain ⟨P, hP⟩ : ∃ P, P = isRightB s := ⟨_, rfl⟩
  rw [← hP]
  rw [isRightB] at hP
  generalize decide (NumP s) = b1 at *
  generalize decide (BegP s) = b2 at *
  generalize rightF s s.kept.length = b3 at *
  have HP : Hid (P = (b1 && (b2 && b3))) := hP; clear hP
  go_enter Try.func102, Try.ntmps102
  go_upto_region 1 with fail
  generalize w.alloc (.cells (stCells s (.slice a s.kept.length cap)) 84) = wb at hst hbl ⊢
  obtain ⟨B, hB⟩ : ∃ B, B = w.heap.size := ⟨_, rfl⟩
  rw [← hB] at hst ⊢
  have HW := hid hbl; have HS : Hid (StAt wb B s (.slice a s.kept.length cap)) := hst; have HV : Hid (EntsAt wb (.slice a s.kept.length cap) s.kept) := hv.next hbl; clear hB hbl hv; obtain ⟨lt, h0, h1, h2, h3, h4, h5, h6, h7, h8, h9, h10, h11, h12⟩ := hst
  have nx : ∀ {w1 w2 : World}, Below w1.heap.size w1 w2 → StAt w1 B s (.slice a s.kept.length cap) → StAt w2 B s (.slice a s.kept.length cap) := fun h q => q.next h
  cases b1 with
  | false =>
    go_wp2_with (first | (go_at_call 105; refine (c1 _).mono ?_; rintro e w1 ⟨rfl, hb1⟩))
    go_ret
    exact ⟨by rw [HP.out]; rfl, HW.out.trans (hb1.mono HW.out.size)⟩
  | true =>
    cases b2 with
    | false =>
      go_wp2_with (first | (go_at_call 105; refine (c1 _).mono ?_; rintro e w1 ⟨rfl, hb1⟩; have HS1 : Hid (StAt w1 B s (.slice a s.kept.length cap)) := HS.out.next hb1; clear h0 h1 h2 h3 h4 h5 h6 h7 h8 h9 h10 h11 h12 lt; obtain ⟨lt, h0, h1, h2, h3, h4, h5, h6, h7, h8, h9, h10, h11, h12⟩ := HS1.out) | (go_at_call 106; refine (c2 _).mono ?_; rintro e w2 ⟨rfl, hb2⟩))
      go_ret
      exact ⟨by rw [HP.out]; rfl, below_tr (HW.out.trans (hb1.mono HW.out.size)) hb2⟩
    | true =>
      go_wp2_with (first | (go_at_call 105; refine (c1 _).mono ?_; rintro e w1 ⟨rfl, hb1⟩; have HS1 : Hid (StAt w1 B s (.slice a s.kept.length cap)) := HS.out.next hb1; have HV1 : Hid (EntsAt w1 (.slice a s.kept.length cap) s.kept) := HV.out.next hb1; clear h0 h1 h2 h3 h4 h5 h6 h7 h8 h9 h10 h11 h12 lt; obtain ⟨lt, h0, h1, h2, h3, h4, h5, h6, h7, h8, h9, h10, h11, h12⟩ := HS1.out) | (go_at_call 106; refine (c2 _).mono ?_; rintro e w2 ⟨rfl, hb2⟩; have HS2 : Hid (StAt w2 B s (.slice a s.kept.length cap)) := HS1.out.next hb2; have HV2 : Hid (EntsAt w2 (.slice a s.kept.length cap) s.kept) := HV1.out.next hb2; clear h0 h1 h2 h3 h4 h5 h6 h7 h8 h9 h10 h11 h12 lt; obtain ⟨lt, h0, h1, h2, h3, h4, h5, h6, h7, h8, h9, h10, h11, h12⟩ := HS2.out) | (go_at_call 107; refine (c3 _ HV2.out).mono ?_; rintro e w3 ⟨rfl, hb3⟩))
      go_ret
      exact ⟨by rw [HP.out]; rfl, below_tr (below_tr (HW.out.trans (hb1.mono HW.out.size)) hb2) hb3⟩
theorem partL_8 (l : List UInt8) (a : Nat) (h : a + 8 ≤ l.length) : partL l (a : Int) 8 = (l.drop a).take 8 := by
  rw [partL, if_pos (by omega), Int.toNat_natCast]; rfl
set_option maxHeartbeats 2000000 in
theorem readKept_any (t : ByteArray) (n : Nat) (w : World) (ht : t.size ≤ 1000) (hn : 40 + 10 * n ≤ t.size) :
    Calls Try.prog 101 #[.string t, .int .i64 n] w fun e w' => (∃ v, e = .returned v ∧ w'.ownsRow w.heap.size 142 3 v n (entsCells ((List.range n).map (entAt t.data.toList)))) ∧ Below w.heap.size w w' := by
  obtain ⟨i0, hi0, hz0, hz1, hz2⟩ := info_parts Try.infoKept; have htl := len_list t
  go_enter Try.func101, Try.ntmps101
  go_wp2
  go_loopg [5, 6] (n + 1) (fun g v c wr => ∃ (i gg cap : Nat), c = .int .i64 i ∧ v = .slice (some ⟨gg, 0, none⟩) i cap ∧ i ≤ n ∧ g + i = n + 1 ∧ wr.ownsRow w.heap.size 142 3 v i (entsCells ((List.range i).map (entAt t.data.toList))) ∧ Below w.heap.size w wr)
  case atStart => exact ⟨0, _, _, rfl, rfl, by omega, by omega, World.ownsRow_lit w #[] 0 (Nat.le_refl _) (by unfold maxLen; omega) rfl, (Below.refl _ _).alloc (Nat.le_refl _) _⟩
  case round =>
    obtain ⟨i, gg, cap, rfl, rfl, hi, hg, hown, hb⟩ := hrel; have hsz := hb.size; have HB := hid hb; clear hb
    by_cases hlt : i < n
    · have hI : (i : Int) < (n : Int) := by omega
      have c1 := fun w => tbyte_any t (40 + (i : Int) * 10) w (by unfold maxLen; omega) (by omega)
      have c2 := fun w => tbyte_any t (40 + (i : Int) * 10 + 1) w (by unfold maxLen; omega) (by omega)
      have c3 := fun w => part_any t (40 + (i : Int) * 10 + 2) 8 w (by unfold maxLen; omega)
      rw [show (40 + (i : Int) * 10).toNat = 40 + 10 * i by omega] at c1
      rw [show (40 + (i : Int) * 10 + 1).toNat = 41 + 10 * i by omega] at c2
      rw [show 40 + (i : Int) * 10 + 2 = ((42 + 10 * i : Nat) : Int) by omega, partL_8 _ _ (by omega), show ((42 + 10 * i : Nat) : Int) = 40 + (i : Int) * 10 + 2 by omega] at c3
      have HE : Hid (entCells (entAt t.data.toList i) = [.int .i64 ((t.data.toList.getD (40 + 10 * i) 0).toNat : Int), .int .i64 ((t.data.toList.getD (41 + 10 * i) 0).toNat : Int), .string (str ((t.data.toList.drop (42 + 10 * i)).take 8))]) := rfl
      generalize (t.data.toList.getD (40 + 10 * i) 0).toNat = x0 at *
      generalize (t.data.toList.getD (41 + 10 * i) 0).toNat = x1 at *
      generalize str ((t.data.toList.drop (42 + 10 * i)).take 8) = x2 at *
      have tok1 : True := trivial
      go_wp2_with (first | (go_at_call 63; have _t := tok1; refine (c1 _).mono ?_; rintro e w' ⟨rfl, hw⟩; rw [hw]; clear hw w' tok1) | (go_at_call 63; refine (c2 _).mono ?_; rintro e w' ⟨rfl, hw⟩; rw [hw]; clear hw w') | (go_at_call 65; refine (c3 _).mono ?_; rintro e w' ⟨rfl, hw⟩; rw [hw]; clear hw w') | (at_builtin; refine wpList_append_lies _ rfl (.tmp 17) (.tmp 30) _ rfl w.heap.size 142 i0 _ 3 32 Try.underlying82 hi0 hz0 hz1 hz2 rfl (by omega) _ i (entsCells ((List.range i).map (entAt t.data.toList))) rfl (hown.alloc _) ⟨wr.heap.size, 0, none⟩ 1 1 [.int .i64 x0, .int .i64 x1, .string x2] rfl rfl (World.news_of_block (cs := #[.int .i64 x0, .int .i64 x1, .string x2]) (t := 142) (fr := (0, 0)) (heap_alloc_new _ _)) (by simp [Value.oneCell']) (by omega) (by unfold maxLen; omega) (by omega) (by simp; omega) (wr.heap.size + 1) (by simp) ?_; intro g2 cap2 w2 hown2 hgrow hat hlt2))
      go_roundg (gk - 1)
      case measure => omega
      case rel =>
        refine ⟨i + 1, g2, cap2, by simp, rfl, by omega, by omega, ?_, ?_⟩
        · rw [kept_push, HE.out]; exact hown2
        · exact grown_below (HB.out.alloc hsz _) (hown.alloc _) hgrow
    · obtain rfl : i = n := by omega
      go_wp2; go_ret; exact ⟨⟨_, rfl, hown⟩, HB.out⟩
def ReadNo (e : Ending) : Prop := ∃ (s : StM) (a : Option Addr) (n c : Nat), e = .returned (.tuple #[.agg (stCells s (.slice a n c)), .bool false])
theorem ReadNo.zero : ReadNo (.returned (.tuple #[.agg zeroCells13, .bool false])) := ⟨zeroS, none, 0, 0, rfl⟩
def ReadOut (t : List UInt8) (c : Nat) (b : Nat) (w' : World) (e : Ending) : Prop :=
  (sideOk t c ∧ ∃ v, e = .returned (.tuple #[.agg (stCells (seenS t c) v), .bool true]) ∧ w'.ownsRow b 142 3 v (seenS t c).kept.length (entsCells (seenS t c).kept)) ∨ (¬ sideOk t c ∧ ReadNo e)
set_option maxHeartbeats 2000000 in
theorem read_many (t : ByteArray) (c : Nat) (w : World) (hc : c ≤ 30) (ht : t.size = halfN c * 32) (h7 : c < (t.data.toList.getD 7 0).toNat) :
    Calls Try.prog 95 #[.string t, .int .i64 c] w fun e w' => ReadOut t.data.toList c w.heap.size w' e ∧ Below w.heap.size w w' := by
  obtain ⟨hh1, hh2, hh3⟩ := halfN_le c hc
  have cB := fun i w => tbyte_any t i w (by unfold maxLen; omega)
  have cS := fun w => sideSize_any c w (by omega)
  have HNO : Hid (¬ sideOk t.data.toList c) := fun h => by have := h.2.1; omega
  have h7I : (c : Int) < ((t.data.toList.getD 7 0).toNat : Int) := by omega
  have c7 : ∀ w, Calls Try.prog 63 #[.string t, .int .i64 7] w fun e w' => e = .returned (.int .i64 ((t.data.toList.getD 7 0).toNat : Int)) ∧ w' = w := fun w => cB 7 w (by omega)
  generalize (t.data.toList.getD 7 0).toNat = n7 at *
  generalize halfN c = hf at *
  go_enter Try.func95, Try.ntmps95
  go_wp2_with (first | (go_at_call 63; refine (c7 _).mono ?_; rintro e w' ⟨rfl, hw⟩; rw [hw]; clear hw w') | (go_at_call 86; refine (cS _).mono ?_; rintro e w' ⟨rfl, hw⟩; rw [hw]; clear hw w'))
  (try simp only [Exit.inBlock, Exit.then])
  refine bodyPost_ret (v := .tuple #[.agg zeroCells13, .bool false]) ?_ ?_ ?_
  · rw [results_cell_tmp (fn := Try.f95) rfl]; simp [go_sem, zeroCells13]
  · rfl
  · refine ⟨.inr ⟨HNO.out, .zero⟩, ?_⟩
    exact (Below.refl _ _).alloc (Nat.le_refl _) _
theorem str_beqR (x : List UInt8) (t : ByteArray) : ((str x).toList == t.toList) = decide (x = t.data.toList) := by
  rw [ByteArray.toList_eq, ByteArray.toList_eq, str_toList]
  by_cases h : x = t.data.toList
  · rw [decide_eq_true h, h]; simp
  · rw [decide_eq_false h, beq_eq_false_iff_ne]; exact h
theorem read_done {t : List UInt8} {c : Nat} {bs : StM} {gd : Bool} {a : Option Addr} {n cc b : Nat} {w' : World} (hg : decide (sideOk t c) = gd) (hs : bs = seenS t c) (he : w'.ownsRow b 142 3 (.slice a n cc) bs.kept.length (entsCells bs.kept)) :
    ReadOut t c b w' (.returned (.tuple #[.agg (stCells bs (.slice a n cc)), .bool gd])) := by
  subst hs
  cases gd with
  | true => exact .inl ⟨of_decide_eq_true hg, _, rfl, he⟩
  | false => exact .inr ⟨of_decide_eq_false hg, _, _, _, _, rfl⟩
def b6 (l : List UInt8) : Nat := (l.getD 6 0).toNat
structure ReadAt (w wx : World) (B : Nat) (bs : StM) (v : Value) : Prop where
  below : Below w.heap.size w wx
  new : w.heap.size < B
  res : wx.heap[w.heap.size]? = some (.cells zeroCells13 84)
  st : StAt wx B bs v
  own : wx.ownsRow (w.heap.size + 1) 142 3 v bs.kept.length (entsCells bs.kept)
theorem ReadAt.next {w wx w' : World} {B : Nat} {bs : StM} {v : Value} (h : ReadAt w wx B bs v) (hb : Below wx.heap.size wx w') : ReadAt w w' B bs v :=
  ⟨below_tr h.below hb, h.new, (hb.block _ (by have := h.st.lt; have := h.new; omega)).trans h.res, h.st.next hb, ownsRow_below h.own hb⟩
set_option maxHeartbeats 4000000 in
theorem read_few (t : ByteArray) (c : Nat) (w : World) (hc : c ≤ 30) (ht : t.size = halfN c * 32) (h7 : ¬ c < (t.data.toList.getD 7 0).toNat) :
    Calls Try.prog 95 #[.string t, .int .i64 c] w fun e w' => ReadOut t.data.toList c w.heap.size w' e ∧ Below w.heap.size w w' := by
  obtain ⟨hh1, hh2, hh3⟩ := halfN_le c hc; have htl := len_list t
  have b : ∀ i, (t.data.toList.getD i 0).toNat ≤ 255 := fun i => byte_le _
  have hN1 : u (wd (t.data.toList.drop 32)) = ((wn 4 (t.data.toList.drop 32) : Nat) : Int) := by unfold u; rw [wd_toNat]
  have hN2 : u (wd (t.data.toList.drop 36)) = ((wn 4 (t.data.toList.drop 36) : Nat) : Int) := by unfold u; rw [wd_toNat]
  have l1 := wn_lt 4 (t.data.toList.drop 32); have l2 := wn_lt 4 (t.data.toList.drop 36)
  have cN1 : ∀ w, Calls Try.prog 64 #[.string t, .int .i64 32] w fun e w' => e = .returned (.int .u32 ((wn 4 (t.data.toList.drop 32) : Nat) : Int)) ∧ w' = w := fun w => by
    have := number_any t 32 w (by unfold maxLen; omega) (by omega); rw [hN1] at this; exact this
  have cN2 : ∀ w, Calls Try.prog 64 #[.string t, .int .i64 36] w fun e w' => e = .returned (.int .u32 ((wn 4 (t.data.toList.drop 36) : Nat) : Int)) ∧ w' = w := fun w => by
    have := number_any t 36 w (by unfold maxLen; omega) (by omega); rw [hN2] at this; exact this
  have cS := fun w => sideSize_any c w (by omega)
  have cb : ∀ i : Nat, ∀ w, Calls Try.prog 63 #[.string t, .int .i64 i] w fun e w' => e = .returned (.int .i64 ((t.data.toList.getD i 0).toNat : Int)) ∧ w' = w := fun i w => by
    have := tbyte_any t (i : Int) w (by unfold maxLen; omega) (by omega); rwa [Int.toNat_natCast] at this
  have cb0 : ∀ w, Calls Try.prog 63 #[.string t, .int .i64 0] w fun e w' => e = .returned (.int .i64 ((t.data.toList.getD 0 0).toNat : Int)) ∧ w' = w := cb 0
  have cb1 : ∀ w, Calls Try.prog 63 #[.string t, .int .i64 1] w fun e w' => e = .returned (.int .i64 ((t.data.toList.getD 1 0).toNat : Int)) ∧ w' = w := cb 1
  have cb2 : ∀ w, Calls Try.prog 63 #[.string t, .int .i64 2] w fun e w' => e = .returned (.int .i64 ((t.data.toList.getD 2 0).toNat : Int)) ∧ w' = w := cb 2
  have cb3 : ∀ w, Calls Try.prog 63 #[.string t, .int .i64 3] w fun e w' => e = .returned (.int .i64 ((t.data.toList.getD 3 0).toNat : Int)) ∧ w' = w := cb 3
  have cb4 : ∀ w, Calls Try.prog 63 #[.string t, .int .i64 4] w fun e w' => e = .returned (.int .i64 ((t.data.toList.getD 4 0).toNat : Int)) ∧ w' = w := cb 4
  have cb5 : ∀ w, Calls Try.prog 63 #[.string t, .int .i64 5] w fun e w' => e = .returned (.int .i64 ((t.data.toList.getD 5 0).toNat : Int)) ∧ w' = w := cb 5
  have cb6 : ∀ w, Calls Try.prog 63 #[.string t, .int .i64 6] w fun e w' => e = .returned (.int .i64 ((t.data.toList.getD 6 0).toNat : Int)) ∧ w' = w := cb 6
  have cb7 : ∀ w, Calls Try.prog 63 #[.string t, .int .i64 7] w fun e w' => e = .returned (.int .i64 ((t.data.toList.getD 7 0).toNat : Int)) ∧ w' = w := cb 7
  have cp : ∀ i : Nat, i + 8 ≤ t.size → ∀ w, Calls Try.prog 65 #[.string t, .int .i64 i, .int .i64 8] w fun e w' => e = .returned (.string (str ((t.data.toList.drop i).take 8))) ∧ w' = w := fun i hi w => by
    have := part_any t (i : Int) 8 w (by unfold maxLen; omega); rwa [partL_8 _ _ (by omega)] at this
  have cp8 : ∀ w, Calls Try.prog 65 #[.string t, .int .i64 8, .int .i64 8] w fun e w' => e = .returned (.string (str ((t.data.toList.drop 8).take 8))) ∧ w' = w := cp 8 (by omega)
  have cp16 : ∀ w, Calls Try.prog 65 #[.string t, .int .i64 16, .int .i64 8] w fun e w' => e = .returned (.string (str ((t.data.toList.drop 16).take 8))) ∧ w' = w := cp 16 (by omega)
  have cp24 : ∀ w, Calls Try.prog 65 #[.string t, .int .i64 24, .int .i64 8] w fun e w' => e = .returned (.string (str ((t.data.toList.drop 24).take 8))) ∧ w' = w := cp 24 (by omega)
  have cK := fun w => readKept_any t (t.data.toList.getD 7 0).toNat w (by omega) (by omega)
  have h7I : ¬ (c : Int) < ((t.data.toList.getD 7 0).toNat : Int) := by omega
  obtain ⟨bs, hbs⟩ : ∃ bs, bs = seenS t.data.toList (t.data.toList.getD 6 0).toNat := ⟨_, rfl⟩
  have HBS : Hid (bs = seenS t.data.toList (b6 t.data.toList)) := hbs
  have HB6 : Hid (bs.cap = b6 t.data.toList) := by show _ = _; rw [hbs]; rfl
  have hcells : ∀ v, stCells bs v = #[.int .i64 ((t.data.toList.getD 0 0).toNat : Int), .int .i64 ((t.data.toList.getD 1 0).toNat : Int), .int .i64 ((t.data.toList.getD 2 0).toNat : Int), .int .i64 ((t.data.toList.getD 3 0).toNat : Int), .int .i64 ((t.data.toList.getD 4 0).toNat : Int), .int .i64 ((t.data.toList.getD 5 0).toNat : Int), .int .i64 ((t.data.toList.getD 6 0).toNat : Int), .string (str ((t.data.toList.drop 8).take 8)), .string (str ((t.data.toList.drop 16).take 8)), .string (str ((t.data.toList.drop 24).take 8)), .int .i64 ((wn 4 (t.data.toList.drop 32) : Nat) : Int), .int .i64 ((wn 4 (t.data.toList.drop 36) : Nat) : Int), v] := fun v => by rw [hbs]; rfl
  have hkeptb : bs.kept = (List.range (t.data.toList.getD 7 0).toNat).map (entAt t.data.toList) := by rw [hbs]; rfl
  have hcapb : bs.cap = (t.data.toList.getD 6 0).toNat := by rw [hbs]; rfl
  have hkl : bs.kept.length = (t.data.toList.getD 7 0).toNat := by rw [hkeptb, kept_len]
  rw [← hkeptb, ← hkl] at cK
  rw [← hkl] at h7I cb7
  have HKL : Hid (bs.kept.length = (t.data.toList.getD 7 0).toNat) := hkl; have HKL2 : Hid (bs.kept.length = (t.data.toList.getD 7 0).toNat) := hkl; have HCAP : Hid (bs.cap = (t.data.toList.getD 6 0).toNat) := hcapb; have HCC : Hid (∀ v, stCells bs v = #[.int .i64 ((t.data.toList.getD 0 0).toNat : Int), .int .i64 ((t.data.toList.getD 1 0).toNat : Int), .int .i64 ((t.data.toList.getD 2 0).toNat : Int), .int .i64 ((t.data.toList.getD 3 0).toNat : Int), .int .i64 ((t.data.toList.getD 4 0).toNat : Int), .int .i64 ((t.data.toList.getD 5 0).toNat : Int), .int .i64 ((t.data.toList.getD 6 0).toNat : Int), .string (str ((t.data.toList.drop 8).take 8)), .string (str ((t.data.toList.drop 16).take 8)), .string (str ((t.data.toList.drop 24).take 8)), .int .i64 ((wn 4 (t.data.toList.drop 32) : Nat) : Int), .int .i64 ((wn 4 (t.data.toList.drop 36) : Nat) : Int), v]) := hcells
  have HOK : Hid (StOk bs) := by
    show StOk bs
    rw [hbs]
    refine ⟨byte_le _, byte_le _, byte_le _, byte_le _, byte_le _, byte_le _, byte_le _, part_len _ 8 8 (by omega), part_len _ 16 8 (by omega), part_len _ 24 8 (by omega), l1, l2, ?_, ?_⟩
    · show ((List.range _).map (entAt t.data.toList)).length ≤ 255
      rw [kept_len]; exact b 7
    · intro e he
      obtain ⟨i, hi, rfl⟩ := List.mem_map.1 he; have hi' := List.mem_range.1 hi
      exact ⟨byte_le _, byte_le _, part_len _ _ 8 (by omega)⟩
  have y1b : wn 4 (t.data.toList.drop 32) < 4294967296 := l1; have y2b : wn 4 (t.data.toList.drop 36) < 4294967296 := l2
  generalize (t.data.toList.getD 0 0).toNat = x0 at *
  generalize (t.data.toList.getD 1 0).toNat = x1 at *
  generalize (t.data.toList.getD 2 0).toNat = x2 at *
  generalize (t.data.toList.getD 3 0).toNat = x3 at *
  generalize (t.data.toList.getD 4 0).toNat = x4 at *
  generalize (t.data.toList.getD 5 0).toNat = x5 at *
  generalize (t.data.toList.getD 6 0).toNat = x6 at *
  generalize str ((t.data.toList.drop 8).take 8) = r8 at *
  generalize str ((t.data.toList.drop 16).take 8) = r16 at *
  generalize str ((t.data.toList.drop 24).take 8) = r24 at *
  generalize wn 4 (t.data.toList.drop 32) = y1 at *
  generalize wn 4 (t.data.toList.drop 36) = y2 at *
  generalize halfN c = hf at *
  clear cb cp hN1 hN2 l1 l2 b hbs hcells hkeptb hcapb hkl; have tokb0 : True := trivial; have tokb1 : True := trivial; have tokb2 : True := trivial; have tokb3 : True := trivial; have tokb4 : True := trivial; have tokb5 : True := trivial; have tokb6 : True := trivial; have tokb7 : True := trivial; have tokp8 : True := trivial; have tokp16 : True := trivial; have tokp24 : True := trivial; have tok1 : True := trivial
  go_enter Try.func95, Try.ntmps95
  go_upto_region 5 with (first | (go_at_call 63; have _t := tokb7; with_reducible refine (cb7 _).mono ?_; rintro e w' ⟨rfl, hw⟩; rw [hw]; clear hw w' tokb7) | (go_at_call 86; refine (cS _).mono ?_; rintro e w' ⟨rfl, hw⟩; rw [hw]; clear hw w') | (go_at_call 63; have _t := tokb0; with_reducible refine (cb0 _).mono ?_; rintro e w' ⟨rfl, hw⟩; rw [hw]; clear hw w' tokb0) | (go_at_call 63; have _t := tokb1; with_reducible refine (cb1 _).mono ?_; rintro e w' ⟨rfl, hw⟩; rw [hw]; clear hw w' tokb1) | (go_at_call 63; have _t := tokb2; with_reducible refine (cb2 _).mono ?_; rintro e w' ⟨rfl, hw⟩; rw [hw]; clear hw w' tokb2) | (go_at_call 63; have _t := tokb3; with_reducible refine (cb3 _).mono ?_; rintro e w' ⟨rfl, hw⟩; rw [hw]; clear hw w' tokb3) | (go_at_call 63; have _t := tokb4; with_reducible refine (cb4 _).mono ?_; rintro e w' ⟨rfl, hw⟩; rw [hw]; clear hw w' tokb4) | (go_at_call 63; have _t := tokb5; with_reducible refine (cb5 _).mono ?_; rintro e w' ⟨rfl, hw⟩; rw [hw]; clear hw w' tokb5) | (go_at_call 63; have _t := tokb6; with_reducible refine (cb6 _).mono ?_; rintro e w' ⟨rfl, hw⟩; rw [hw]; clear hw w' tokb6) | (go_at_call 65; have _t := tokp8; with_reducible refine (cp8 _).mono ?_; rintro e w' ⟨rfl, hw⟩; rw [hw]; clear hw w' tokp8) | (go_at_call 65; have _t := tokp16; with_reducible refine (cp16 _).mono ?_; rintro e w' ⟨rfl, hw⟩; rw [hw]; clear hw w' tokp16) | (go_at_call 65; have _t := tokp24; with_reducible refine (cp24 _).mono ?_; rintro e w' ⟨rfl, hw⟩; rw [hw]; clear hw w' tokp24) | (go_at_call 64; have _t := tok1; refine (cN1 _).mono ?_; rintro e w' ⟨rfl, hw⟩; rw [hw]; clear hw w' tok1) | (go_at_call 64; refine (cN2 _).mono ?_; rintro e w' ⟨rfl, hw⟩; rw [hw]; clear hw w') | (go_at_call 101; with_reducible refine (cK _).mono ?_; rintro e w2 ⟨⟨v, rfl, hown⟩, hb2⟩; obtain ⟨aa, nn, cc, hv⟩ := owns_form hown; subst hv))
  have hR : ReadAt w (w2.alloc (.cells (stCells bs (.slice aa nn cc)) 84)) w2.heap.size bs (.slice aa nn cc) := by
    have hsz := hb2.size
    simp at hsz
    refine ⟨?_, by omega, ?_, StAt.madeD w2 bs _, ?_⟩
    · exact (below_tr ((Below.refl _ _).alloc (Nat.le_refl _) _) hb2).alloc (by omega) _
    · refine (Below.heap_alloc _ _ _ (by omega)).trans ?_
      exact (hb2.block _ (by simp)).trans (heap_alloc_new w _)
    · have := hown.alloc (.cells (stCells bs (.slice aa nn cc)) 84)
      have e : (w.alloc (.cells zeroCells13 84)).heap.size = w.heap.size + 1 := by simp
      have h2 : (w.alloc (.cells zeroCells13 84)).heap.size = w.heap.size + 1 := e
      refine ownsRow_base this ?_
      simp
  rw [HCC.out] at hR
  generalize (w2.alloc (Obj.cells #[.int .i64 x0, .int .i64 x1, .int .i64 x2, .int .i64 x3, .int .i64 x4, .int .i64 x5, .int .i64 x6, .string r8, .string r16, .string r24, .int .i64 y1, .int .i64 y2, .slice aa nn cc] 84)) = wx at hR ⊢
  generalize w2.heap.size = B at hR ⊢
  clear hb2 hown cK cS cN1 cN2 cb0 cb1 cb2 cb3 cb4 cb5 cb6 cb7 cp8 cp16 cp24; obtain ⟨lt, k0, k1, k2, k3, k4, k5, k6, k7, k8, k9, k10, k11, k12⟩ := hR.st; have hBne : w.heap.size < B := hR.new
  by_cases h6 : bs.cap = c
  · have h6I : (bs.cap : Int) = (c : Int) := by omega
    have c5 := fun w h => isRight_any bs (.slice aa nn cc) w HOK.out h
    have c6 := fun w h => boxSide_any bs (.slice aa nn cc) w HOK.out h
    unfold stCells at c5 c6
    rw [h6I] at c5 k6
    have HSS : Hid (bs = seenS t.data.toList c) := by
      show bs = _
      have e : b6 t.data.toList = c := by rw [← HB6.out]; exact h6
      have e2 := HBS.out
      rw [e] at e2
      exact e2
    have hrl : isRightB bs = lawfulL bs := right_lawful bs (by rw [h6]; exact hc) (by rw [h6]; omega)
    rw [hrl] at c5
    have HR : Hid (ReadAt w wx B bs (.slice aa nn cc)) := hR; have HSC : Hid (bs.cap = c) := h6
    have hkc : bs.kept.length ≤ c := by omega
    clear hR h6I h6 hrl
    by_cases hlaw : lawfulL bs = true
    · rw [hlaw] at c5
      go_upto_region 7 with (first | (go_at_call 102; with_reducible refine (c5 _ (EntsAt.of_own HR.out.own)).mono ?_; rintro e w4 ⟨rfl, hb4⟩))
      have HR4 : Hid (ReadAt w w4 B bs (.slice aa nn cc)) := HR.out.next hb4; clear hb4 HR k0 k1 k2 k3 k4 k5 k6 k7 k8 k9 k10 k11 k12 lt c5; obtain ⟨lt, k0, k1, k2, k3, k4, k5, k6, k7, k8, k9, k10, k11, k12⟩ := HR4.out.st; have hsd := str_beqR (sideL bs) t
      have HG : Hid (decide (sideOk t.data.toList c) = decide (sideL bs = t.data.toList)) := by
        show _ = _
        by_cases hq : sideL bs = t.data.toList
        · rw [decide_eq_true hq, decide_eq_true]
          exact ⟨by have := HB6.out; rw [HSC.out] at this; exact this.symm, by rw [← HKL2.out]; exact hkc, by rw [← HSS.out]; exact hlaw, by rw [← HSS.out]; exact hq⟩
        · rw [decide_eq_false hq, decide_eq_false (fun h => hq (by rw [HSS.out]; exact h.2.2.2))]
      generalize decide (sideL bs = t.data.toList) = gd at *
      generalize str (sideL bs) = sd at *
      have hA4 := HR4.out.res; obtain ⟨a0, a1, a2, a3, a4, a5, a6, a7, a8, a9, a10, a11, a12⟩ := cells13 hA4
      have fA : ∀ j, w4.frozen? ⟨w.heap.size, j, none⟩ = false := fun j => frozen_of_row w4 _ j _ _ hA4
      clear hA4
      go_region_with (first | (go_at_call 85; (with_reducible refine (c6 _ (by first | exact EntsAt.of_own HR4.out.own | exact EntsAt.of_own (ownsRow_drew HR4.out.own))).mono ?_); rintro e w5 ⟨rfl, hb5⟩; have HR5 : Hid (ReadAt w w5 B bs (.slice aa nn cc)) := HR4.out.next ⟨hb5.os, hb5.tape, hb5.output, hb5.size, hb5.block⟩; obtain ⟨lt5, m0, m1, m2, m3, m4, m5, m6, m7, m8, m9, m10, m11, m12⟩ := HR5.out.st; have hA5 := HR5.out.res; obtain ⟨n0, n1, n2, n3, n4, n5, n6, n7, n8, n9, n10, n11, n12⟩ := cells13 hA5; have fA5 : ∀ j, w5.frozen? ⟨w.heap.size, j, none⟩ = false := fun j => frozen_of_row w5 _ j _ _ hA5; clear hA5 hb5))
      all_goals go_wp2
      all_goals (try simp only [Exit.inBlock, Exit.then])
      all_goals refine bodyPost_ret (v := .tuple #[.agg (stCells bs (.slice aa nn cc)), .bool gd]) ?_ ?_ ?_
      all_goals first
        | rfl
        | (rw [results_cell_tmp (fn := Try.f95) rfl]; simp [go_sem, stCells, n0, n1, n2, n3, n4, n5, n6, n7, n8, n9, n10, n11, n12]; done)
        | skip
      all_goals refine ⟨?_, ?_⟩
      all_goals first
        | (repeat (first | (with_reducible refine Below.setCell ?_ (by exact Nat.le_refl _) _) | (with_reducible refine Below.drew ?_))
           exact HR5.out.below)
        | skip
      all_goals refine read_done HG.out HSS.out ?_
      all_goals refine ownsRow_base (base := w.heap.size + 1) ?_ (Nat.le_succ _)
      all_goals
        repeat (first | (with_reducible refine ownsRow_setCell_below ?_ (by exact Nat.lt_succ_self _) _) | (with_reducible refine ownsRow_drew ?_))
        exact HR5.out.own
    · have hlaw' : lawfulL bs = false := by cases h : lawfulL bs with | true => exact absurd h hlaw | false => rfl
      rw [hlaw'] at c5
      have HNO : Hid (¬ sideOk t.data.toList c) := fun h => by have := h.2.2.1; rw [← HSS.out] at this; exact hlaw this
      clear hlaw hlaw'
      go_upto_region 6 with (first | (go_at_call 102; with_reducible refine (c5 _ (EntsAt.of_own HR.out.own)).mono ?_; rintro e w4 ⟨rfl, hb4⟩))
      have HR4 : Hid (ReadAt w w4 B bs (.slice aa nn cc)) := HR.out.next hb4; have hA4 := HR4.out.res; obtain ⟨a0, a1, a2, a3, a4, a5, a6, a7, a8, a9, a10, a11, a12⟩ := cells13 hA4
      have fA : ∀ j, w4.frozen? ⟨w.heap.size, j, none⟩ = false := fun j => frozen_of_row w4 _ j _ _ hA4
      clear hA4 hb4 HR k0 k1 k2 k3 k4 k5 k6 k7 k8 k9 k10 k11 k12 lt c5 c6; go_wp2
      (try simp only [Exit.inBlock, Exit.then])
      refine bodyPost_ret (v := .tuple #[.agg zeroCells13, .bool false]) ?_ ?_ ?_
      · rw [results_cell_tmp (fn := Try.f95) rfl]; simp [go_sem, zeroCells13, a0, a1, a2, a3, a4, a5, a6, a7, a8, a9, a10, a11, a12]
      · rfl
      · refine ⟨.inr ⟨HNO.out, .zero⟩, ?_⟩
        repeat (with_reducible refine Below.setCell ?_ (by exact Nat.le_refl _) _)
        exact HR4.out.below
  · have h6I : ¬ (bs.cap : Int) = (c : Int) := by omega
    have HNO : Hid (¬ sideOk t.data.toList c) := fun h => by exact h6 (HB6.out.trans h.1)
    have hA := hR.res; obtain ⟨a0, a1, a2, a3, a4, a5, a6, a7, a8, a9, a10, a11, a12⟩ := cells13 hA
    have fA : ∀ j, wx.frozen? ⟨w.heap.size, j, none⟩ = false := fun j => frozen_of_row wx _ j _ _ hA
    have HR : Hid (ReadAt w wx B bs (.slice aa nn cc)) := hR; clear hA hR h6; go_wp2
    (try simp only [Exit.inBlock, Exit.then])
    refine bodyPost_ret (v := .tuple #[.agg zeroCells13, .bool false]) ?_ ?_ ?_
    · rw [results_cell_tmp (fn := Try.f95) rfl]; simp [go_sem, zeroCells13, a0, a1, a2, a3, a4, a5, a6, a7, a8, a9, a10, a11, a12]
    · rfl
    · refine ⟨.inr ⟨HNO.out, .zero⟩, ?_⟩
      repeat (with_reducible refine Below.setCell ?_ (by exact Nat.le_refl _) _)
      exact HR.out.below
theorem readBox_any (t : ByteArray) (c : Nat) (w : World) (hc : c ≤ 30) (ht : t.size = halfN c * 32) :
    Calls Try.prog 95 #[.string t, .int .i64 c] w fun e w' => ReadOut t.data.toList c w.heap.size w' e ∧ Below w.heap.size w w' := by
  by_cases h7 : c < (t.data.toList.getD 7 0).toNat
  · exact read_many t c w hc ht h7
  · exact read_few t c w hc ht h7
end Go.Proofs.Ytabpkohcimiceab
