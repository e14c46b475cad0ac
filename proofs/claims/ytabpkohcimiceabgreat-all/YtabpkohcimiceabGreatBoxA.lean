import Derived.Test.YtabpkohcimiceabGreatPow
import Derived.Test.YtabpkohcimiceabGreatDisk
namespace Go.Proofs.YtabpkohcimiceabGreat
set_option maxRecDepth 100000
set_option maxHeartbeats 1000000
open Go.RowKit
structure EntM where
  step : Nat
  count : Nat
  key : List UInt8
deriving Inhabited, DecidableEq
structure StM where
  role : Nat
  step : Nat
  sent : Nat
  got : Nat
  prev : Nat
  skip : Nat
  cap : Nat
  root : List UInt8
  out : List UInt8
  inn : List UInt8
  secret : Nat
  peer : Nat
  kept : List EntM
deriving Inhabited, DecidableEq
def halfN (cap : Nat) : Nat := (71 + 10 * cap) / 32
def fillL (l : List UInt8) (n : Nat) : List UInt8 := l ++ List.replicate (n - l.length) 0
def topL (cap live : Nat) : List UInt8 := fillL [80, 65, 87, 76, UInt8.ofNat cap, UInt8.ofNat live] 32
def fourN (n : Nat) : List UInt8 := four (BitVec.ofNat 32 n)
def entL (e : EntM) : List UInt8 := UInt8.ofNat e.step :: UInt8.ofNat e.count :: e.key
def entsL : List EntM → List UInt8
  | [] => []
  | e :: l => entL e ++ entsL l
def headL (s : StM) : List UInt8 := [UInt8.ofNat s.role, UInt8.ofNat s.step, UInt8.ofNat s.sent, UInt8.ofNat s.got, UInt8.ofNat s.prev, UInt8.ofNat s.skip, UInt8.ofNat s.cap, UInt8.ofNat s.kept.length]
def bodyL (s : StM) : List UInt8 := headL s ++ s.root ++ s.out ++ s.inn ++ fourN s.secret ++ fourN s.peer
def sideL (s : StM) : List UInt8 := fillL (bodyL s ++ entsL s.kept) (halfN s.cap * 32)
def packL (s : StM) (live size : Nat) : List UInt8 := fillL ((if live = 1 then fillL (topL s.cap live) ((1 + halfN s.cap) * 32) else topL s.cap live) ++ sideL s) size
def ofL (l : List EntM) (step : Nat) : Nat := (l.filter fun e => e.step == step).length
def beforeL (a b : EntM) : Bool := decide (a.step < b.step) || (a.step == b.step && decide (a.count < b.count))
def keyOk (s : StM) (i : Nat) : Bool :=
  let k := s.kept.getD i default
  !(decide (s.skip < ofL s.kept k.step) || decide (k.step < 1) || decide (s.step ≤ k.step) || (k.step + s.step) % 2 == 0 || decide (49 < k.count)) &&
  !(k.step + 1 == s.step && decide (s.got ≤ k.count)) && (decide (i = 0) || beforeL (s.kept.getD (i - 1) default) k)
def keysF (s : StM) : Nat → Bool
  | 0 => true
  | i + 1 => keysF s i && keyOk s i
def keysL (s : StM) : Bool := decide (s.kept.length ≤ s.cap) && keysF s s.kept.length
def noneL : List UInt8 := List.replicate 8 0
def lawA (s : StM) : Bool := decide (s.role ≤ 1 ∧ s.step ≤ 30 ∧ (s.step + s.role) % 2 ≠ 0 ∧ s.skip ≤ 12 ∧ s.cap ≤ 30)
def lawB (s : StM) : Bool := decide (s.sent ≤ 50 ∧ s.got ≤ 50 ∧ s.prev ≤ 50)
def lawC (s : StM) : Bool := decide (Sec s.secret ∧ (0 < s.step → Pub s.peer))
def lawD (s : StM) : Bool := decide (s.step = 0 → s.sent = 0 ∧ s.peer = 0 ∧ s.out = noneL)
def lawE (s : StM) : Bool := decide (s.step ≤ 1 → s.got = 0 ∧ s.inn = noneL)
def lawF (s : StM) : Bool := decide (s.step ≤ 2 → s.prev = 0)
def lawfulL (s : StM) : Bool := lawA s && lawB s && lawC s && lawD s && lawE s && lawF s && keysL s
theorem fillL_length (l : List UInt8) (n : Nat) : (fillL l n).length = max l.length n := by rw [fillL, List.length_append, List.length_replicate]; omega
theorem topL_length (cap live : Nat) : (topL cap live).length = 32 := by rw [topL, fillL_length]; rfl
theorem fourN_length (n : Nat) : (fourN n).length = 4 := rfl
theorem ofL_nil (step : Nat) : ofL [] step = 0 := rfl
theorem ofL_le (l : List EntM) (step : Nat) : ofL l step ≤ l.length := List.length_filter_le _ _
theorem entsL_append (a b : List EntM) : entsL (a ++ b) = entsL a ++ entsL b := by
  induction a with
  | nil => rfl
  | cons e a ih => rw [List.cons_append, entsL, entsL, ih, List.append_assoc]
theorem take_succ_getD {α : Type} (l : List α) (d : α) (i : Nat) (h : i < l.length) : l.take (i + 1) = l.take i ++ [l.getD i d] := by
  rw [List.take_succ_eq_append_getElem h, List.getD_eq_getElem?_getD, List.getElem?_eq_getElem h]; rfl
theorem entsL_take (l : List EntM) (i : Nat) (h : i < l.length) : entsL (l.take (i + 1)) = entsL (l.take i) ++ entL (l.getD i default) := by
  rw [take_succ_getD l default i h, entsL_append]; simp [entsL]
theorem ofL_take (l : List EntM) (step i : Nat) (h : i < l.length) : ofL (l.take (i + 1)) step = ofL (l.take i) step + if (l.getD i default).step = step then 1 else 0 := by
  rw [take_succ_getD l default i h, ofL, ofL, List.filter_append, List.length_append, List.filter_cons, List.filter_nil]
  congr 1
  by_cases h : (l.getD i default).step = step
  · rw [if_pos (by simpa using h), if_pos h]; rfl
  · rw [if_neg (by simpa using h), if_neg h]; rfl
def entCells (e : EntM) : List Value := [.int .i64 e.step, .int .i64 e.count, .string (str e.key)]
def entsCells : List EntM → List Value
  | [] => []
  | e :: l => entCells e ++ entsCells l
theorem entsCells_append (a b : List EntM) : entsCells (a ++ b) = entsCells a ++ entsCells b := by
  induction a with
  | nil => rfl
  | cons r a ih => rw [List.cons_append, entsCells, entsCells, ih, List.append_assoc]
theorem entsCells_at : ∀ (a : List EntM) (j : Nat) (h : j < a.length), (entsCells a)[j * 3]? = some (.int .i64 (a[j].step : Int)) ∧ (entsCells a)[j * 3 + 1]? = some (.int .i64 (a[j].count : Int)) ∧ (entsCells a)[j * 3 + 2]? = some (.string (str a[j].key))
  | r :: a, 0, _ => ⟨rfl, rfl, rfl⟩
  | r :: a, j + 1, h => by
    obtain ⟨h1, h2, h3⟩ := entsCells_at a j (by simpa using h)
    refine ⟨?_, ?_, ?_⟩
    · rw [show (j + 1) * 3 = j * 3 + 3 by omega]; exact h1
    · rw [show (j + 1) * 3 + 1 = (j * 3 + 1) + 3 by omega]; exact h2
    · rw [show (j + 1) * 3 + 2 = (j * 3 + 2) + 3 by omega]; exact h3
def EntsAt (w : World) (v : Value) (l : List EntM) : Prop :=
  (v = .slice none 0 0 ∧ l = []) ∨ ∃ g cap, v = .slice (some ⟨g, 0, none⟩) l.length cap ∧ l.length ≤ cap ∧ g < w.heap.size ∧
    ∀ j (h : j < l.length), w.cell? ⟨g, j * 3, none⟩ = some (.int .i64 (l[j].step : Int)) ∧ w.cell? ⟨g, j * 3 + 1, none⟩ = some (.int .i64 (l[j].count : Int)) ∧ w.cell? ⟨g, j * 3 + 2, none⟩ = some (.string (str l[j].key))
theorem EntsAt.next {w w' : World} {v : Value} {l : List EntM} (h : EntsAt w v l) (hb : Below w.heap.size w w') : EntsAt w' v l := by
  rcases h with h | ⟨g, cap, h1, h2, h3, h4⟩
  · exact .inl h
  · refine .inr ⟨g, cap, h1, h2, Nat.lt_of_lt_of_le h3 hb.size, fun j hj => ?_⟩
    obtain ⟨a, b, c⟩ := h4 j hj; exact ⟨(hb.cell (p := ⟨g, j * 3, none⟩) h3).trans a, (hb.cell (p := ⟨g, j * 3 + 1, none⟩) h3).trans b, (hb.cell (p := ⟨g, j * 3 + 2, none⟩) h3).trans c⟩
theorem EntsAt.form {w : World} {v : Value} {l : List EntM} (h : EntsAt w v l) : ∃ a cap, v = .slice a l.length cap := by
  rcases h with ⟨h1, h2⟩ | ⟨g, cap, h1, _⟩
  · exact ⟨none, 0, by rw [h1, h2]; rfl⟩
  · exact ⟨_, cap, h1⟩
theorem EntsAt.cells {w : World} {v : Value} {l : List EntM} (h : EntsAt w v l) {j : Nat} (hj : j < l.length) : ∃ g cap, v = .slice (some ⟨g, 0, none⟩) l.length cap ∧ l.length ≤ cap ∧ g < w.heap.size ∧ w.cell? ⟨g, j * 3, none⟩ = some (.int .i64 ((l.getD j default).step : Int)) ∧ w.cell? ⟨g, j * 3 + 1, none⟩ = some (.int .i64 ((l.getD j default).count : Int)) ∧ w.cell? ⟨g, j * 3 + 2, none⟩ = some (.string (str (l.getD j default).key)) := by
  have e : l.getD j default = l[j] := by rw [List.getD_eq_getElem?_getD, List.getElem?_eq_getElem hj]; rfl
  rcases h with ⟨_, rfl⟩ | ⟨g, cap, h1, h2, h3, h4⟩
  · simp at hj
  · rw [e]; exact ⟨g, cap, h1, h2, h3, h4 j hj⟩
theorem EntsAt.of_own {w : World} {base : Nat} {e : TypeId} {v : Value} {l : List EntM} (h : w.ownsRow base e 3 v l.length (entsCells l)) : EntsAt w v l := by
  rcases h.2 with ⟨rfl, h0⟩ | ⟨g, cap, cur, hv, hg, hgg, hn, _, _, _⟩
  · exact .inl ⟨rfl, List.eq_nil_of_length_eq_zero h0⟩
  · refine .inr ⟨g, cap, hv, hn, (h.lt g (by rw [hv]; rfl)).2, fun j hj => ?_⟩
    obtain ⟨a, b, c⟩ := entsCells_at l j hj; subst hv
    refine ⟨?_, ?_, ?_⟩
    · rw [h.cellAt (j * 3) (by omega)]; exact a
    · rw [h.cellAt (j * 3 + 1) (by omega)]; exact b
    · rw [h.cellAt (j * 3 + 2) (by omega)]; exact c
def stCells (s : StM) (v : Value) : Array Value :=
  #[.int .i64 s.role, .int .i64 s.step, .int .i64 s.sent, .int .i64 s.got, .int .i64 s.prev, .int .i64 s.skip, .int .i64 s.cap, .string (str s.root), .string (str s.out), .string (str s.inn), .int .i64 s.secret, .int .i64 s.peer, v]
set_option linter.unusedVariables false
theorem half_any (n : Nat) (w : World) (h : n ≤ 1000) : Calls Tryz.prog 95 #[.int .i64 n] w fun e w' => e = .returned (.int .i64 (halfN n)) ∧ w' = w := by
  go_enter Tryz.func95, Tryz.ntmps95
  go_wp2; go_ret; exact ⟨rfl, rfl⟩
def needR (n : Int) : Int × Int := if 0 ≤ n ∧ n ≤ 30 then (1 + 2 * (halfN n.toNat : Int), 0) else (0, 3)
theorem refNeed_any (n : Int) (w : World) : Calls Tryz.prog 50 #[.int .i64 n] w fun e w' => e = .returned (.tuple #[.int .i64 (needR n).1, .int .i64 (needR n).2]) ∧ w' = w := by
  by_cases h0 : n < 0
  · rw [needR, if_neg (by omega)]
    go_enter Tryz.func50, Tryz.ntmps50
    go_wp2; go_ret2; exact ⟨rfl, rfl⟩
  by_cases h1 : 30 < n
  · rw [needR, if_neg (by omega)]
    go_enter Tryz.func50, Tryz.ntmps50
    go_wp2; go_ret2; exact ⟨rfl, rfl⟩
  obtain ⟨m, rfl⟩ := Int.eq_ofNat_of_zero_le (show 0 ≤ n by omega)
  rw [needR, if_pos (by omega), Int.toNat_natCast]
  have hh : halfN m ≤ 11 := by unfold halfN; omega
  have c1 := fun w => half_any m w (by omega)
  obtain ⟨q, hq⟩ : ∃ q, q = halfN m := ⟨_, rfl⟩
  rw [← hq] at hh c1 ⊢
  clear hq
  go_enter Tryz.func50, Tryz.ntmps50
  go_wp2_with (go_at_call 95; refine (c1 _).mono ?_; rintro e w' ⟨rfl, hw⟩; rw [hw]; clear hw w')
  go_ret2
  refine ⟨?_, rfl⟩
  show Ending.returned (Value.tuple #[Value.int .i64 (1 + (q : Int) + (q : Int)), _]) = _
  rw [show (1 + (q : Int) + (q : Int)) = 1 + 2 * (q : Int) by omega]
  rfl
theorem filled_any (s : ByteArray) (n : Int) (w : World) (h0 : 0 ≤ n) (h1 : n ≤ 100000) (hs : s.size ≤ 100000) :
    Calls Tryz.prog 136 #[.string s, .int .i64 n] w fun e w' => e = .returned (.string (str (fillL s.data.toList n.toNat))) ∧ w' = w := by
  obtain ⟨m, rfl⟩ := Int.eq_ofNat_of_zero_le h0
  have c1 := fun w => zeros_any ((m : Int) - (s.size : Int)) w (by omega) (by omega)
  obtain ⟨z, hz⟩ : ∃ z, z = str (List.replicate ((m : Int) - (s.size : Int)).toNat 0) := ⟨_, rfl⟩
  have hzs : z.size ≤ 100000 := by rw [hz, str_size, List.length_replicate]; omega
  rw [← hz] at c1
  have HZ : Hid (z = str (List.replicate ((m : Int) - (s.size : Int)).toNat 0)) := hz; clear hz
  go_enter Tryz.func136, Tryz.ntmps136
  go_wp2_with (go_at_call 19; refine (c1 _).mono ?_; rintro e w' ⟨rfl, hw⟩; rw [hw]; clear hw w')
  go_ret
  refine ⟨?_, rfl⟩
  show Ending.returned (Value.string (s ++ z)) = _
  have e : s ++ z = str (fillL s.data.toList m) := by
    conv => lhs; rw [← str_of s]
    rw [HZ.out, str_append, fillL, len_list, show ((m : Int) - (s.size : Int)).toNat = m - s.size by omega]
  rw [e, Int.toNat_natCast]
theorem pawl_size (b : UInt8) : ((⟨#[80, 65, 87, 76]⟩ : ByteArray) ++ str [b]).size = 5 := by
  rw [← len_list, ByteArray.data_append]; simp [str]
theorem pawl_size2 (b c : UInt8) : ((⟨#[80, 65, 87, 76]⟩ : ByteArray) ++ str [b] ++ str [c]).size = 6 := by
  rw [← len_list, ByteArray.data_append, ByteArray.data_append]; simp [str]
theorem pawl_list (b c : UInt8) : ((⟨#[80, 65, 87, 76]⟩ : ByteArray) ++ str [b] ++ str [c]).data.toList = [80, 65, 87, 76, b, c] := by
  rw [ByteArray.data_append, ByteArray.data_append]; simp [str]
theorem top_any (c l : Nat) (w : World) (h0 : c ≤ 1000) (h1 : l ≤ 1000) :
    Calls Tryz.prog 122 #[.int .i64 c, .int .i64 l] w fun e w' => e = .returned (.string (str (topL c l))) ∧ Below w.heap.size w w' := by
  have z1 := pawl_size (UInt8.ofNat c); have z2 := pawl_size2 (UInt8.ofNat c) (UInt8.ofNat l)
  have c2 := fun w => filled_any ((⟨#[80, 65, 87, 76]⟩ : ByteArray) ++ str [UInt8.ofNat c] ++ str [UInt8.ofNat l]) 32 w (by omega) (by omega) (by rw [z2]; omega)
  rw [pawl_list] at c2
  go_enter Tryz.func122, Tryz.ntmps122
  go_wp2_with (first | (go_at_call 76; refine (byteOf_any _ _ (by omega) (by omega)).mono ?_; rintro e w1 ⟨rfl, cc, rfl⟩) | (go_at_call 136; refine (c2 _).mono ?_; rintro e w' ⟨rfl, hw⟩; rw [hw]; clear hw w'))
  go_ret
  refine ⟨rfl, ?_⟩
  repeat (first | exact Below.refl _ _ | (refine Below.alloc ?_ (by first | exact Nat.le_refl _ | simp) _))
theorem value_any (s : ByteArray) (w : World) (hs : s.size ≤ maxLen) :
    Calls Tryz.prog 140 #[.string s] w fun e w' => e = .returned (.int .i64 (wn 4 s.data.toList)) ∧ w' = w := by
  have hb := u_bd (wd s.data.toList)
  have hu : u (wd s.data.toList) = ((wn 4 s.data.toList : Nat) : Int) := by unfold u; rw [wd_toNat]
  have c1 := fun w => word_any s w hs
  rw [hu] at c1 hb
  obtain ⟨b0, b1⟩ := hb; clear hu
  obtain ⟨q, hq⟩ : ∃ q, q = wn 4 s.data.toList := ⟨_, rfl⟩
  rw [← hq] at c1 b0 b1 ⊢
  clear hq
  go_enter Tryz.func140, Tryz.ntmps140
  go_wp2_with (go_at_call 132; refine (c1 _).mono ?_; rintro e w' ⟨rfl, hw⟩; rw [hw]; clear hw w')
  go_ret; exact ⟨rfl, rfl⟩
theorem of_any (l : List EntM) (v : Value) (t : Nat) (w : World) (hl : EntsAt w v l) (hl2 : l.length ≤ 1000) :
    Calls Tryz.prog 159 #[v, .int .i64 t] w fun e w' => e = .returned (.int .i64 (ofL l t)) ∧ w' = w := by
  obtain ⟨a, cap, hva⟩ := hl.form; subst hva
  go_enter Tryz.func159, Tryz.ntmps159
  go_wp2
  go_loopg [5, 6] 2000 (fun g n c wr => ∃ j : Nat, c = .int .i64 j ∧ j ≤ l.length ∧ g + j = 2000 ∧ n = .int .i64 (ofL (l.take j) t) ∧ wr = w)
  case atStart => exact ⟨0, rfl, by omega, by omega, rfl, rfl⟩
  case round =>
    obtain ⟨j, rfl, hj, hg, rfl, rfl⟩ := hrel; have hle := ofL_le (l.take j) t
    have hlt2 : (l.take j).length ≤ 1000 := by rw [List.length_take]; omega
    by_cases hlt : j < l.length
    · obtain ⟨g, cap', hv', hc, hgs, c0, c1, c2⟩ := hl.cells hlt
      injection hv' with h1 h2 h3
      subst h1 h3
      have hjl : (j : Int) < (l.length : Int) := by omega
      have hof := ofL_take l t j hlt
      obtain ⟨q, hq⟩ : ∃ q, q = ofL (l.take j) t := ⟨_, rfl⟩
      rw [← hq] at hle hof ⊢
      by_cases he : (l.getD j default).step = t
      · rw [if_pos he] at hof
        rw [he] at c0
        have HO : Hid (ofL (l.take (j + 1)) t = q + 1) := hof; clear hof hq he; go_wp2
        go_roundg (gk - 1)
        case measure => omega
        case rel => exact ⟨j + 1, by simp, by omega, by omega, by rw [HO.out]; simp, rfl⟩
      · rw [if_neg he] at hof
        have HO : Hid (ofL (l.take (j + 1)) t = q) := hof
        have he' : ¬ ((l.getD j default).step : Int) = (t : Int) := by omega
        obtain ⟨z, hz⟩ : ∃ z, z = (l.getD j default).step := ⟨_, rfl⟩
        rw [← hz] at c0 he'
        clear hof hq he hz; go_wp2
        go_roundg (gk - 1)
        case measure => omega
        case rel => exact ⟨j + 1, by simp, by omega, by omega, by rw [HO.out], rfl⟩
    · obtain rfl : j = l.length := by omega
      rw [List.take_length]; go_wp2; go_ret; exact ⟨rfl, rfl⟩
theorem before_any (a b : EntM) (w : World) :
    Calls Tryz.prog 165 #[.agg #[.int .i64 a.step, .int .i64 a.count, .string (str a.key)], .agg #[.int .i64 b.step, .int .i64 b.count, .string (str b.key)]] w fun e w' => e = .returned (.bool (beforeL a b)) ∧ ∃ x y, w' = (w.alloc (.cells x 119)).alloc (.cells y 119) := by
  by_cases h1 : a.step < b.step
  · have e1 : beforeL a b = true := by simp [beforeL, h1]
    rw [e1]
    have h1' : (a.step : Int) < (b.step : Int) := by omega
    go_enter Tryz.func165, Tryz.ntmps165
    go_wp2; go_ret; exact ⟨rfl, _, _, rfl⟩
  · have h1' : ¬ (a.step : Int) < (b.step : Int) := by omega
    by_cases h2 : a.step = b.step
    · have h2' : (a.step : Int) = (b.step : Int) := by omega
      by_cases h3 : a.count < b.count
      · have e1 : beforeL a b = true := by simp [beforeL, h2, h3]
        rw [e1]
        have h3' : (a.count : Int) < (b.count : Int) := by omega
        go_enter Tryz.func165, Tryz.ntmps165
        go_wp2; go_ret; exact ⟨rfl, _, _, rfl⟩
      · have e1 : beforeL a b = false := by simp [beforeL, h2, h3]
        rw [e1]
        have h3' : ¬ (a.count : Int) < (b.count : Int) := by omega
        go_enter Tryz.func165, Tryz.ntmps165
        go_wp2; go_ret; exact ⟨rfl, _, _, rfl⟩
    · have e1 : beforeL a b = false := by simp [beforeL, h1, h2]
      rw [e1]
      have h2' : ¬ (a.step : Int) = (b.step : Int) := by omega
      go_enter Tryz.func165, Tryz.ntmps165
      go_wp2; go_ret; exact ⟨rfl, _, _, rfl⟩
attribute [local go_sem ↓] Go.wp_at_zero Go.wp_at_succ
structure StAt (w : World) (g : Nat) (s : StM) (v : Value) : Prop where
  lt : g < w.heap.size
  c0 : w.cell? ⟨g, 0, none⟩ = some (.int .i64 s.role)
  c1 : w.cell? ⟨g, 1, none⟩ = some (.int .i64 s.step)
  c2 : w.cell? ⟨g, 2, none⟩ = some (.int .i64 s.sent)
  c3 : w.cell? ⟨g, 3, none⟩ = some (.int .i64 s.got)
  c4 : w.cell? ⟨g, 4, none⟩ = some (.int .i64 s.prev)
  c5 : w.cell? ⟨g, 5, none⟩ = some (.int .i64 s.skip)
  c6 : w.cell? ⟨g, 6, none⟩ = some (.int .i64 s.cap)
  c7 : w.cell? ⟨g, 7, none⟩ = some (.string (str s.root))
  c8 : w.cell? ⟨g, 8, none⟩ = some (.string (str s.out))
  c9 : w.cell? ⟨g, 9, none⟩ = some (.string (str s.inn))
  c10 : w.cell? ⟨g, 10, none⟩ = some (.int .i64 s.secret)
  c11 : w.cell? ⟨g, 11, none⟩ = some (.int .i64 s.peer)
  c12 : w.cell? ⟨g, 12, none⟩ = some v
theorem StAt.next {w w' : World} {g : Nat} {s : StM} {v : Value} (h : StAt w g s v) (hb : Below w.heap.size w w') : StAt w' g s v := by
  have f : ∀ i x, w.cell? ⟨g, i, none⟩ = some x → w'.cell? ⟨g, i, none⟩ = some x := fun i x hx => (hb.cell (p := ⟨g, i, none⟩) h.lt).trans hx
  exact ⟨Nat.lt_of_lt_of_le h.lt hb.size, f _ _ h.c0, f _ _ h.c1, f _ _ h.c2, f _ _ h.c3, f _ _ h.c4, f _ _ h.c5, f _ _ h.c6, f _ _ h.c7, f _ _ h.c8, f _ _ h.c9, f _ _ h.c10, f _ _ h.c11, f _ _ h.c12⟩
theorem StAt.made (w : World) (s : StM) (v : Value) : StAt (w.alloc (.cells (stCells s v) 63)) w.heap.size s v := by
  constructor
  · simp
  all_goals (rw [World.cell?_alloc_new]; rfl)
structure StOk (s : StM) : Prop where
  role : s.role ≤ 255
  step : s.step ≤ 255
  sent : s.sent ≤ 255
  got : s.got ≤ 255
  prev : s.prev ≤ 255
  skip : s.skip ≤ 255
  cap : s.cap ≤ 255
  root : s.root.length = 8
  out : s.out.length = 8
  inn : s.inn.length = 8
  secret : s.secret < 4294967296
  peer : s.peer < 4294967296
  kept : s.kept.length ≤ 255
  keys : ∀ e ∈ s.kept, e.step ≤ 255 ∧ e.count ≤ 255 ∧ e.key.length = 8
theorem four_nat (n : Nat) (w : World) (h : n < 4294967296) :
    Calls Tryz.prog 108 #[.int .i64 n] w fun e w' => e = .returned (.string (str (fourN n))) ∧ ∃ c1 c2 c3 c4, w' = (((w.alloc (.cells c1 5)).alloc (.cells c2 5)).alloc (.cells c3 5)).alloc (.cells c4 5) := by
  have e : u (BitVec.ofNat 32 n) = (n : Int) := by unfold u; rw [BitVec.toNat_ofNat]; omega
  have := four_any (BitVec.ofNat 32 n) w
  rw [e] at this
  exact this
theorem one_nat (n : Int) (w : World) (h0 : 0 ≤ n) (h1 : n ≤ 255) :
    Calls Tryz.prog 76 #[.int .i64 n] w fun e w' => e = .returned (.string (str [UInt8.ofNat n.toNat])) ∧ ∃ c, w' = w.alloc (.cells c 5) := byteOf_any n w h0 (by omega)
attribute [local go_sem] str_one_size
set_option maxHeartbeats 4000000 in
theorem side_any (s : StM) (v : Value) (w : World) (hs : StOk s) (hv : EntsAt w v s.kept) :
    Calls Tryz.prog 125 #[.agg (stCells s v)] w fun e w' => e = .returned (.string (str (sideL s))) ∧ Below w.heap.size w w' := by
  obtain ⟨a, cap, hva⟩ := hv.form; subst hva
  go_enter Tryz.func125, Tryz.ntmps125
  go_upto_region 1 with fail
  have hst := StAt.made w s (.slice a s.kept.length cap); have hbl : Below w.heap.size w (w.alloc (.cells (stCells s (.slice a s.kept.length cap)) 63)) := (Below.refl _ _).alloc (Nat.le_refl _) _
  generalize w.alloc (.cells (stCells s (.slice a s.kept.length cap)) 63) = wb at hst hbl ⊢
  obtain ⟨B, hB⟩ : ∃ B, B = w.heap.size := ⟨_, rfl⟩
  rw [← hB] at hst ⊢
  have HB : Hid (B = w.heap.size) := hB; have HW := hid hbl; have HS : Hid (StAt wb B s (.slice a s.kept.length cap)) := hst; have HV : Hid (EntsAt wb (.slice a s.kept.length cap) s.kept) := hv.next hbl; clear hB hbl hv; obtain ⟨o0, o1, o2, o3, o4, o5, o6, o7, o8, o9, o10, o11, o12, o13⟩ := hs; have tok1 : True := trivial
  go_cut [3] (fun t wx => t = .string (str (headL s)) ∧ Below wb.heap.size wb wx)
  case first =>
    obtain ⟨lt, h0, h1, h2, h3, h4, h5, h6, h7, h8, h9, h10, h11, h12⟩ := hst; clear h7 h8 h9 h10 h11 o7 o8 o9 o10 o11 o13
    go_region_held3 (fun w' => w'.cell? ⟨B, 0, none⟩ = some (.int .i64 s.role) ∧ w'.cell? ⟨B, 1, none⟩ = some (.int .i64 s.step) ∧ w'.cell? ⟨B, 2, none⟩ = some (.int .i64 s.sent) ∧ w'.cell? ⟨B, 3, none⟩ = some (.int .i64 s.got) ∧ w'.cell? ⟨B, 4, none⟩ = some (.int .i64 s.prev) ∧ w'.cell? ⟨B, 5, none⟩ = some (.int .i64 s.skip) ∧ w'.cell? ⟨B, 6, none⟩ = some (.int .i64 s.cap) ∧ w'.cell? ⟨B, 12, none⟩ = some (.slice a s.kept.length cap))
      (simp (maxDischargeDepth := 40) [World.cell?_alloc_some, h0, h1, h2, h3, h4, h5, h6, h12])
      (first | (go_at_call 76; go_must (refine (one_nat _ _ (by omega) (by omega)).mono ?_); rintro e w1 ⟨rfl, cc, rfl⟩))
    go_wp2_with fail
    go_meet
    case rel =>
      refine ⟨?_, ?_⟩
      · simp only [str_append]; rfl
      · repeat (first | exact Below.refl _ _ | apply Below.drew | (refine Below.alloc ?_ (by first | exact Nat.le_refl _ | (simp; done) | (simp; omega)) _))
  case rest =>
    obtain ⟨rfl, hb1⟩ := hcut; have HS1 : Hid (StAt wc B s (.slice a s.kept.length cap)) := HS.out.next hb1; have HV1 : Hid (EntsAt wc (.slice a s.kept.length cap) s.kept) := HV.out.next hb1; have HW1 : Hid (Below w.heap.size w wc) := HW.out.trans (hb1.mono HW.out.size); clear hb1 HS HV HW hst
    go_upto_region 2 with fail
    go_cut [3] (fun t wx => t = .string (str (bodyL s)) ∧ Below wc.heap.size wc wx)
    case first =>
      obtain ⟨lt, h0, h1, h2, h3, h4, h5, h6, h7, h8, h9, h10, h11, h12⟩ := HS1.out; clear h0 h1 h2 h3 h4 h5 h6 h12; have z0 : (str (headL s)).size = 8 := rfl
      have z1 : (str s.root).size = 8 := by rw [str_size]; exact o7
      have z2 : (str s.out).size = 8 := by rw [str_size]; exact o8
      have z3 : (str s.inn).size = 8 := by rw [str_size]; exact o9
      have z4 : (str (fourN s.secret)).size = 4 := rfl; have z5 : (str (fourN s.peer)).size = 4 := rfl
      go_region_held3 (fun w' => w'.cell? ⟨B, 7, none⟩ = some (.string (str s.root)) ∧ w'.cell? ⟨B, 8, none⟩ = some (.string (str s.out)) ∧ w'.cell? ⟨B, 9, none⟩ = some (.string (str s.inn)) ∧ w'.cell? ⟨B, 10, none⟩ = some (.int .i64 s.secret) ∧ w'.cell? ⟨B, 11, none⟩ = some (.int .i64 s.peer))
        (simp (maxDischargeDepth := 40) [World.cell?_alloc_some, h7, h8, h9, h10, h11])
        (first | (go_at_call 108; have _t := tok1; go_must (refine (four_nat s.secret _ o10).mono ?_); rintro e w1 ⟨rfl, x1, x2, x3, x4, rfl⟩; clear tok1) | (go_at_call 108; go_must (refine (four_nat s.peer _ o11).mono ?_); rintro e w1 ⟨rfl, x1, x2, x3, x4, rfl⟩))
      go_wp2_with fail
      go_meet
      case rel =>
        refine ⟨?_, ?_⟩
        · simp only [str_append]; rfl
        · repeat (first | exact Below.refl _ _ | apply Below.drew | (refine Below.alloc ?_ (by first | exact Nat.le_refl _ | (simp; done) | (simp; omega)) _))
    case rest =>
      obtain ⟨rfl, hb1⟩ := hcut; have HS2 : Hid (StAt wc B s (.slice a s.kept.length cap)) := HS1.out.next hb1; have HV2 : Hid (EntsAt wc (.slice a s.kept.length cap) s.kept) := HV1.out.next hb1; have HW2 : Hid (Below w.heap.size w wc) := HW1.out.trans (hb1.mono HW1.out.size); clear hb1 HS1 HV1 HW1 tok1
      have hbz : (bodyL s).length = 40 := by
        simp only [bodyL, List.length_append, o7, o8, o9, fourN_length]; rfl
      go_wp2
      go_loopg [3, 4] (s.kept.length + 1) (fun g t c wr => ∃ i : Nat, ∃ m : ByteArray, c = .int .i64 i ∧ t = .string m ∧ i ≤ s.kept.length ∧ g + i = s.kept.length + 1 ∧ m.size = 40 + 10 * i ∧ m = str (bodyL s ++ entsL (s.kept.take i)) ∧ Below wc.heap.size wc wr)
      case atStart => exact ⟨0, _, rfl, rfl, by omega, by omega, by rw [str_size]; exact hbz, by simp [entsL], Below.refl _ _⟩
      case round =>
        obtain ⟨i, m, rfl, rfl, hi, hg, hms, hm, hbr⟩ := hrel; have HM : Hid (m = str (bodyL s ++ entsL (s.kept.take i))) := hm; have HR := hid hbr; have hst2 := HS2.out.next hbr; have hv2 := HV2.out.next hbr; clear hm hbr
        by_cases hlt : i < s.kept.length
        · obtain ⟨g, cap', hv', hc, hgs, e0, e1, e2⟩ := hv2.cells hlt
          injection hv' with q1 q2 q3
          subst q1 q3
          obtain ⟨k1, k2, k3⟩ := o13 (s.kept.getD i default) (by rw [List.getD_eq_getElem?_getD, List.getElem?_eq_getElem hlt]; exact List.getElem_mem _)
          have het := entsL_take s.kept i hlt
          generalize s.kept.getD i default = en at e0 e1 e2 k1 k2 k3 het
          have HT : Hid (entsL (s.kept.take (i + 1)) = entsL (s.kept.take i) ++ entL en) := het; have h12 := hst2.c12
          have hil : (i : Int) < (s.kept.length : Int) := by omega
          have zk : (str en.key).size = 8 := by rw [str_size]; exact k3
          clear het hst2 hv2
          go_upto_region 6 with fail
          have r1 : ¬ 9223372036854775807 < 40 + 10 * i + 1 := by omega
          have r2 : ¬ 9223372036854775807 < 40 + 10 * i + 1 + 1 := by omega
          have r3 : ¬ 9223372036854775807 < 40 + 10 * i + 1 + 1 + 8 := by omega
          have i0 : (0 : Int) ≤ (i : Int) := by omega
          go_region_held3 (fun w' => w'.cell? ⟨B, 12, none⟩ = some (.slice (some ⟨g, 0, none⟩) s.kept.length cap) ∧ w'.cell? ⟨g, i * 3, none⟩ = some (.int .i64 en.step) ∧ w'.cell? ⟨g, i * 3 + 1, none⟩ = some (.int .i64 en.count) ∧ w'.cell? ⟨g, i * 3 + 2, none⟩ = some (.string (str en.key)))
            (simp (maxDischargeDepth := 40) [World.cell?_alloc_some, h12, e0, e1, e2])
            (first | (go_at_call 76; go_must (refine (one_nat _ _ (by omega) (by omega)).mono ?_); rintro e w1 ⟨rfl, cc, rfl⟩))
          go_wp2
          go_roundg (gk - 1)
          case measure => omega
          case rel =>
            have e : m ++ str [UInt8.ofNat en.step] ++ str [UInt8.ofNat en.count] ++ str en.key = str (bodyL s ++ entsL (s.kept.take (i + 1))) := by
              rw [HM.out, str_append, str_append, str_append, HT.out, entL]; simp
            have ez : (m ++ str [UInt8.ofNat en.step] ++ str [UInt8.ofNat en.count] ++ str en.key).size = 40 + 10 * (i + 1) := by
              rw [ByteArray.size_append, ByteArray.size_append, ByteArray.size_append, hms, zk, str_one_size, str_one_size]; omega
            refine ⟨i + 1, m ++ str [UInt8.ofNat en.step] ++ str [UInt8.ofNat en.count] ++ str en.key, by simp, rfl, by omega, by omega, ez, e, ?_⟩
            have hr := HR.out
            repeat (first | exact hr | apply Below.drew | (refine Below.alloc ?_ (by have := hr.size; first | omega | (simp; omega)) _))
        · obtain rfl : i = s.kept.length := by omega
          have h6 := hst2.c6; have h12 := hst2.c12; clear hst2 hv2
          have hf1 := fun w => half_any s.cap w (by omega)
          have hhf : halfN s.cap ≤ 100 := by unfold halfN; omega
          have hf2 := fun w => filled_any m ((halfN s.cap : Int) * 32) w (by omega) (by omega) (by omega)
          have HF : Hid (fillL m.data.toList ((halfN s.cap : Int) * 32).toNat = sideL s) := by
            show _ = _
            rw [HM.out, str_toList, List.take_length, sideL, show ((halfN s.cap : Int) * 32).toNat = halfN s.cap * 32 by omega]
          have HR2 : Hid (Below w.heap.size w wr) := HW2.out.trans (HR.out.mono HW2.out.size)
          generalize halfN s.cap = hh at hf1 hhf hf2 HF
          go_wp2_with (first | (go_at_call 95; refine (hf1 _).mono ?_; rintro e w' ⟨rfl, hw⟩; rw [hw]; clear hw w') | (go_at_call 136; refine (hf2 _).mono ?_; rintro e w' ⟨rfl, hw⟩; rw [hw]; clear hw w'))
          go_ret
          refine ⟨?_, HR2.out⟩
          show Ending.returned (Value.string (str (fillL m.data.toList ((hh : Int) * 32).toNat))) = _
          rw [HF.out]
end Go.Proofs.YtabpkohcimiceabGreat
