import Derived.Test.YtabpkohcimiceabSeen
import Derived.Test.YtabpkohcimiceabNew
namespace Go.Proofs.Ytabpkohcimiceab
set_option maxRecDepth 100000
set_option maxHeartbeats 1000000
open Go.RowKit
set_option linter.unusedVariables false
theorem ofNat_toNat (n : Nat) (h : n ≤ 255) : (UInt8.ofNat n).toNat = n := by rw [UInt8.toNat_ofNat']; omega
theorem byte_div (n m : Nat) : (UInt8.ofNat (n / m)).toNat = n / m % 256 := UInt8.toNat_ofNat'
theorem wn_fourN (n : Nat) (h : n < 4294967296) (r : List UInt8) : wn 4 (fourN n ++ r) = n := by
  have e : (BitVec.ofNat 32 n).toNat = n := by rw [BitVec.toNat_ofNat]; omega
  have e1 : fourN n = [UInt8.ofNat (n / 16777216), UInt8.ofNat (n / 65536), UInt8.ofNat (n / 256), UInt8.ofNat n] := by rw [fourN, four, e]
  rw [e1]
  show (((0 * 256 + (UInt8.ofNat (n / 16777216)).toNat) * 256 + (UInt8.ofNat (n / 65536)).toNat) * 256 + (UInt8.ofNat (n / 256)).toNat) * 256 + (UInt8.ofNat n).toNat = n
  rw [byte_div, byte_div, byte_div, UInt8.toNat_ofNat']
  omega
theorem side_parts {s : StM} (h : StOk s) : ∃ z, sideL s = headL s ++ (s.root ++ (s.out ++ (s.inn ++ (fourN s.secret ++ (fourN s.peer ++ (entsL s.kept ++ z)))))) := by
  refine ⟨List.replicate (halfN s.cap * 32 - (bodyL s ++ entsL s.kept).length) 0, ?_⟩
  rw [sideL, fillL, bodyL]
  simp only [List.append_assoc]
theorem drop_app (a b : List UInt8) (n : Nat) (h : a.length = n) : (a ++ b).drop n = b := List.drop_left' h
theorem take_app (a b : List UInt8) (n : Nat) (h : a.length = n) : (a ++ b).take n = a := List.take_left' h
theorem ent_at : ∀ (l : List EntM) (z : List UInt8) (i : Nat), (∀ e ∈ l, e.step ≤ 255 ∧ e.count ≤ 255 ∧ e.key.length = 8) → i < l.length → (entsL l ++ z).drop (10 * i) = entL (l.getD i default) ++ (entsL (l.drop (i + 1)) ++ z)
  | e :: l, z, 0, h, _ => by
    show (entsL (e :: l) ++ z).drop 0 = _
    rw [List.drop_zero, entsL, List.append_assoc]; rfl
  | e :: l, z, i + 1, h, hi => by
    have h8 := (h e List.mem_cons_self).2.2
    have ih := ent_at l z i (fun x hx => h x (List.mem_cons_of_mem _ hx)) (by simpa using hi)
    have e1 : (entL e).length = 10 := by rw [entL]; simp [h8]
    rw [entsL, List.append_assoc, show 10 * (i + 1) = 10 + 10 * i by omega, ← List.drop_drop, drop_app _ _ 10 e1, ih]
    rfl
theorem seen_side {s : StM} (h : StOk s) (hk : s.kept.length ≤ s.cap) : seenS (sideL s) s.cap = s := by
  obtain ⟨z, hz⟩ := side_parts h; obtain ⟨o0, o1, o2, o3, o4, o5, o6, o7, o8, o9, o10, o11, o12, o13⟩ := h; have hh : (headL s).length = 8 := rfl
  have d8 : (sideL s).drop 8 = s.root ++ (s.out ++ (s.inn ++ (fourN s.secret ++ (fourN s.peer ++ (entsL s.kept ++ z))))) := by rw [hz, drop_app _ _ 8 hh]
  have d16 : (sideL s).drop 16 = s.out ++ (s.inn ++ (fourN s.secret ++ (fourN s.peer ++ (entsL s.kept ++ z)))) := by
    rw [show 16 = 8 + 8 from rfl, ← List.drop_drop, d8, drop_app _ _ 8 o7]
  have d24 : (sideL s).drop 24 = s.inn ++ (fourN s.secret ++ (fourN s.peer ++ (entsL s.kept ++ z))) := by
    rw [show 24 = 16 + 8 from rfl, ← List.drop_drop, d16, drop_app _ _ 8 o8]
  have d32 : (sideL s).drop 32 = fourN s.secret ++ (fourN s.peer ++ (entsL s.kept ++ z)) := by
    rw [show 32 = 24 + 8 from rfl, ← List.drop_drop, d24, drop_app _ _ 8 o9]
  have d36 : (sideL s).drop 36 = fourN s.peer ++ (entsL s.kept ++ z) := by
    rw [show 36 = 32 + 4 from rfl, ← List.drop_drop, d32, drop_app _ _ 4 rfl]
  have d40 : (sideL s).drop 40 = entsL s.kept ++ z := by
    rw [show 40 = 36 + 4 from rfl, ← List.drop_drop, d36, drop_app _ _ 4 rfl]
  have g : ∀ i, i < 8 → (sideL s).getD i 0 = (headL s).getD i 0 := by
    intro i hi
    rw [hz, getD_app, if_pos (by rw [hh]; exact hi)]
  have g7 : ((sideL s).getD 7 0).toNat = s.kept.length := by rw [g 7 (by omega)]; exact ofNat_toNat _ o12
  have hkept : (List.range s.kept.length).map (entAt (sideL s)) = s.kept := by
    apply List.ext_getElem
    · simp
    · intro i h1 h2
      rw [List.getElem_map, List.getElem_range]
      have hg : s.kept.getD i default = s.kept[i] := by rw [List.getD_eq_getElem?_getD, List.getElem?_eq_getElem h2]; rfl
      obtain ⟨k1, k2, k3⟩ := o13 s.kept[i] (List.getElem_mem h2); have hd := ent_at s.kept z i o13 h2
      rw [hg] at hd
      have de : (sideL s).drop (40 + 10 * i) = entL s.kept[i] ++ (entsL (s.kept.drop (i + 1)) ++ z) := by
        rw [← List.drop_drop, d40, hd]
      have e0 : (sideL s).getD (40 + 10 * i) 0 = UInt8.ofNat s.kept[i].step := by
        have := getD_dp (sideL s) (40 + 10 * i) 0
        rw [de] at this
        exact this.symm
      have e1 : (sideL s).getD (41 + 10 * i) 0 = UInt8.ofNat s.kept[i].count := by
        have := getD_dp (sideL s) (40 + 10 * i) 1
        rw [de, show 40 + 10 * i + 1 = 41 + 10 * i by omega] at this
        exact this.symm
      have e2 : ((sideL s).drop (42 + 10 * i)).take 8 = s.kept[i].key := by
        rw [show 42 + 10 * i = 40 + 10 * i + 2 by omega, ← List.drop_drop, de, entL]
        show ((s.kept[i].key ++ _)).take 8 = _
        exact take_app _ _ 8 k3
      rw [entAt, e0, e1, e2, ofNat_toNat _ k1, ofNat_toNat _ k2]
  have hs : seenS (sideL s) s.cap = { role := s.role, step := s.step, sent := s.sent, got := s.got, prev := s.prev, skip := s.skip, cap := s.cap, root := s.root, out := s.out, inn := s.inn, secret := s.secret, peer := s.peer, kept := s.kept } := by
    rw [seenS, seenN, g7, hkept, d8, d16, d24, d32, d36, take_app _ _ 8 o7, take_app _ _ 8 o8, take_app _ _ 8 o9, wn_fourN _ o10, wn_fourN _ o11, g 0 (by omega), g 1 (by omega), g 2 (by omega), g 3 (by omega), g 4 (by omega), g 5 (by omega)]
    show StM.mk (UInt8.ofNat s.role).toNat (UInt8.ofNat s.step).toNat (UInt8.ofNat s.sent).toNat (UInt8.ofNat s.got).toNat (UInt8.ofNat s.prev).toNat (UInt8.ofNat s.skip).toNat _ _ _ _ _ _ _ = _
    rw [ofNat_toNat _ o0, ofNat_toNat _ o1, ofNat_toNat _ o2, ofNat_toNat _ o3, ofNat_toNat _ o4, ofNat_toNat _ o5]
  rw [hs]
theorem side_bytes {s : StM} (h : StOk s) : ((sideL s).getD 6 0).toNat = s.cap ∧ ((sideL s).getD 7 0).toNat = s.kept.length := by
  obtain ⟨z, hz⟩ := side_parts h; have hh : (headL s).length = 8 := rfl
  have g : ∀ i, i < 8 → (sideL s).getD i 0 = (headL s).getD i 0 := by
    intro i hi
    rw [hz, getD_app, if_pos (by rw [hh]; exact hi)]
  exact ⟨by rw [g 6 (by omega)]; exact ofNat_toNat _ h.cap, by rw [g 7 (by omega)]; exact ofNat_toNat _ h.kept⟩
theorem pack_parts {s : StM} (live k : Nat) (h : StOk s) (hk : s.kept.length ≤ s.cap) (hc : s.cap ≤ 30) (hl : live ≤ 1) (hn : 1 + 2 * halfN s.cap ≤ k) :
    (packL s live (k * 32)).take 32 = topL s.cap live ∧ ((packL s live (k * 32)).getD 4 0).toNat = s.cap ∧ ((packL s live (k * 32)).getD 5 0).toNat = live ∧ sideOf (packL s live (k * 32)) = sideL s := by
  have hx := packL_lay s live (k * 32) h hk; have hs := sideL_len h hk; have ht := topL_length s.cap live
  have t32 : (packL s live (k * 32)).take 32 = topL s.cap live := by
    rw [hx, fillL, List.append_assoc, take_app _ _ 32 ht]
  have gt : ∀ i, i < 32 → (packL s live (k * 32)).getD i 0 = (topL s.cap live).getD i 0 := by
    intro i hi
    have := getD_tk (packL s live (k * 32)) 32 i
    rw [if_pos hi, t32] at this
    exact this.symm
  have g4 : ((packL s live (k * 32)).getD 4 0).toNat = s.cap := by
    rw [gt 4 (by omega)]; exact ofNat_toNat _ (by omega)
  have g5 : ((packL s live (k * 32)).getD 5 0).toNat = live := by
    rw [gt 5 (by omega)]; exact ofNat_toNat _ (by omega)
  refine ⟨t32, g4, g5, ?_⟩
  rw [sideOf, fromL, g4, g5]
  have : live = 0 ∨ live = 1 := by omega
  rcases this with rfl | rfl
  · rw [show 32 + 0 * (halfN s.cap * 32) = 32 by omega, hx, if_neg (by omega), fillL, List.append_assoc, drop_app _ _ 32 ht, List.nil_append, take_app _ _ _ hs]
  · rw [hx, if_pos rfl, fillL, List.append_assoc, ← List.drop_drop, drop_app _ _ 32 ht, List.append_assoc, drop_app _ _ _ (by rw [List.length_replicate, hs]; omega), take_app _ _ _ hs]
theorem pack_held {s : StM} (live k : Nat) (h : StOk s) (hk : s.kept.length ≤ s.cap) (hc : s.cap ≤ 30) (hl : live ≤ 1) (hn : 1 + 2 * halfN s.cap ≤ k) (hlaw : lawfulL s = true) :
    heldOk (packL s live (k * 32)) ∧ heldS (packL s live (k * 32)) = s ∧ liveL (packL s live (k * 32)) = live := by
  obtain ⟨p1, p2, p3, p4⟩ := pack_parts live k h hk hc hl hn; have hlen := packL_length s live k h hk hl hn; obtain ⟨b6, b7⟩ := side_bytes h; have hse := seen_side h hk
  refine ⟨⟨⟨by rw [hlen]; omega, by rw [p2]; exact hc, by rw [p3]; exact hl, by rw [p1, p2, p3], by rw [p2, hlen]; omega⟩, ?_⟩, ?_, ?_⟩
  · rw [p4, p2]
    exact ⟨b6, by rw [b7]; exact hk, by rw [hse]; exact hlaw, by rw [hse]⟩
  · rw [heldS, p4, p2, hse]
  · rw [liveL, p3]
theorem top_not (cap live : Nat) : topL cap live ≠ List.replicate 32 0 := by
  intro h
  have := congrArg (fun l => l.getD 0 0) h
  simp [topL, fillL] at this
theorem disk_of_len (x : List UInt8) (k : Nat) (h : x.length = k * 32) (h1 : 1 ≤ k) (h2 : k ≤ 40) : isDiskL x = true := by
  rw [isDiskL, decide_eq_true_eq, h]; omega
theorem repair_pack {s : StM} (live k : Nat) (h : StOk s) (hk : s.kept.length ≤ s.cap) (hc : s.cap ≤ 30) (hl : live ≤ 1) (hn : 1 + 2 * halfN s.cap ≤ k) (hk40 : k ≤ 40) (hlaw : lawfulL s = true) :
    repairR (packL s live (k * 32)) = (packL s live (k * 32), 0) := by
  obtain ⟨q1, q2, q3⟩ := pack_held live k h hk hc hl hn hlaw; obtain ⟨p1, _⟩ := pack_parts live k h hk hc hl hn; have hlen := packL_length s live k h hk hl hn
  rw [repairR, if_pos (disk_of_len _ k hlen (by omega) hk40), if_neg (by rw [p1]; exact top_not _ _), if_pos q1, q2, q3, hlen]
theorem repair_zero (x : List UInt8) (k : Nat) (hx : x.length = k * 32) (h1 : 1 ≤ k) (h2 : k ≤ 40) (h0 : secL x 0 = List.replicate 32 0) : repairR x = (List.replicate (k * 32) 0, 0) := by
  have e : x.take 32 = List.replicate 32 0 := by
    have := h0; rw [secL] at this; simpa using this
  rw [repairR, if_pos (disk_of_len x k hx h1 h2), if_pos e, hx]
def keyK (k : List UInt8) : List UInt8 := mixed k [109]
def nextK (k : List UInt8) : List UInt8 := mixed k [110]
def chainK (k : List UInt8) : Nat → List UInt8
  | 0 => k
  | n + 1 => nextK (chainK k n)
theorem chainK_length (k : List UInt8) (h : k.length = 8) : ∀ n, (chainK k n).length = 8
  | 0 => h
  | n + 1 => mixed_length _ _
def spanL (k : List UInt8) (step due : Nat) : Nat → List EntM
  | 0 => []
  | n + 1 => spanL k step due n ++ [⟨step, due + n, keyK (chainK k n)⟩]
theorem spanL_length (k : List UInt8) (step due : Nat) : ∀ n, (spanL k step due n).length = n
  | 0 => rfl
  | n + 1 => by rw [spanL, List.length_append, spanL_length k step due n]; rfl
theorem spanL_mem (k : List UInt8) (step due : Nat) : ∀ n e, e ∈ spanL k step due n → e.step = step ∧ due ≤ e.count ∧ e.count < due + n ∧ e.key.length = 8
  | 0, e, h => by simp [spanL] at h
  | n + 1, e, h => by
    rw [spanL] at h
    rcases List.mem_append.1 h with h | h
    · obtain ⟨a, b, c, d⟩ := spanL_mem k step due n e h
      exact ⟨a, b, by omega, d⟩
    · rw [List.mem_singleton.1 h]
      exact ⟨rfl, Nat.le_add_right _ _, by show due + n < due + (n + 1); omega, mixed_length _ _⟩
theorem ofL_append (a b : List EntM) (st : Nat) : ofL (a ++ b) st = ofL a st + ofL b st := by
  rw [ofL, List.filter_append, List.length_append]; rfl
theorem ofL_span (k : List UInt8) (step due st : Nat) : ∀ n, ofL (spanL k step due n) st = if st = step then n else 0
  | 0 => by rw [spanL, ofL_nil]; split <;> rfl
  | n + 1 => by
    rw [spanL, ofL_append, ofL_span k step due st n, ofL, List.filter_cons, List.filter_nil]
    by_cases h : st = step
    · subst h; rw [if_pos rfl, if_pos rfl]; simp
    · rw [if_neg h, if_neg h]
      have : (step == st) = false := by rw [beq_eq_false_iff_ne]; exact fun e => h e.symm
      simp [this]
structure LetM where
  step : Nat
  count : Nat
  prev : Nat
  pub : Nat
  head : List UInt8
  body : List UInt8
def letOf (t : List UInt8) : LetM := { step := (t.getD 0 0).toNat, count := (t.getD 1 0).toNat, prev := (t.getD 2 0).toNat, pub := wn 4 (t.drop 3), head := t.take 7, body := t.drop 7 }
def letOk (t : List UInt8) : Prop := (15 ≤ t.length ∧ t.length ≤ 55) ∧ 1 ≤ (letOf t).step ∧ (letOf t).step ≤ 29 ∧ (letOf t).count ≤ 49 ∧ (letOf t).prev ≤ 50 ∧ Pub ((letOf t).pub : Int)
instance (t : List UInt8) : Decidable (letOk t) := inferInstanceAs (Decidable (_ ∧ _))
def skipBad (s : StM) (count : Nat) : Prop := s.got < count ∧ s.skip < ofL s.kept (s.step - 1) + (count - s.got)
instance (s : StM) (count : Nat) : Decidable (skipBad s count) := inferInstanceAs (Decidable (_ ∧ _))
def passS (s : StM) (count : Nat) : StM := { s with got := s.got + (count - s.got), inn := chainK s.inn (count - s.got), kept := s.kept ++ spanL s.inn (s.step - 1) s.got (count - s.got) }
def dueS (s : StM) (count : Nat) : StM := { passS s count with got := count + 1, inn := nextK (passS s count).inn }
def turnS (s : StM) (step pub draw : Nat) : StM :=
  { s with inn := chainL s.root (pwN pub s.secret), out := chainL (rootL s.root (pwN pub s.secret)) (pwN pub draw), root := rootL (rootL s.root (pwN pub s.secret)) (pwN pub draw), secret := draw, peer := pub, step := step + 1, prev := s.sent, sent := 0, got := 0 }
def endS (s : StM) (prev : Nat) : StM := if 2 ≤ s.step then passS s prev else s
def isEnt (step count : Nat) (e : EntM) : Bool := e.step == step && e.count == count
def capS (s : StM) : StM := { s with kept := s.kept.drop (s.kept.length - s.cap) }
def dueKey (s : StM) (count : Nat) : List UInt8 := keyK (passS s count).inn
def takeR (s : StM) (l : LetM) (draw : Nat) : Int × List UInt8 × StM :=
  if l.step = s.step + 1 then
    if 2 ≤ s.step ∧ skipBad s l.prev then (17, [], s)
    else if skipBad (turnS (endS s l.prev) l.step l.pub draw) l.count then (17, [], s)
    else (0, dueKey (turnS (endS s l.prev) l.step l.pub draw) l.count, dueS (turnS (endS s l.prev) l.step l.pub draw) l.count)
  else if l.step + 1 = s.step ∧ s.got ≤ l.count then
    if skipBad s l.count then (17, [], s) else (0, dueKey s l.count, dueS s l.count)
  else match s.kept.find? (isEnt l.step l.count) with
    | none => (16, [], s)
    | some e => (0, e.key, { s with kept := s.kept.filter fun e => !isEnt l.step l.count e })
def sendS (s : StM) : StM := { s with out := nextK s.out, sent := s.sent + 1 }
theorem before_iff (a b : EntM) : beforeL a b = true ↔ a.step < b.step ∨ (a.step = b.step ∧ a.count < b.count) := by
  rw [beforeL, Bool.or_eq_true, decide_eq_true_eq, Bool.and_eq_true, beq_iff_eq, decide_eq_true_eq]
theorem before_trans {a b c : EntM} (h1 : beforeL a b = true) (h2 : beforeL b c = true) : beforeL a c = true := by
  rw [before_iff] at *; omega
def Rising (l : List EntM) : Prop := l.Pairwise fun a b => beforeL a b = true
structure KeysQ (s : StM) : Prop where
  of : ∀ e ∈ s.kept, ofL s.kept e.step ≤ s.skip
  lo : ∀ e ∈ s.kept, 1 ≤ e.step ∧ e.step < s.step ∧ (e.step + s.step) % 2 = 1 ∧ e.count ≤ 49 ∧ (e.step + 1 = s.step → e.count < s.got)
  srt : Rising s.kept
theorem keysF_all (s : StM) : ∀ n, keysF s n = true ↔ ∀ i, i < n → keyOk s i = true
  | 0 => ⟨fun _ i h => absurd h (Nat.not_lt_zero _), fun _ => rfl⟩
  | n + 1 => by
    rw [keysF, Bool.and_eq_true, keysF_all s n]
    constructor
    · rintro ⟨h1, h2⟩ i hi
      rcases Nat.lt_or_ge i n with h | h
      · exact h1 i h
      · obtain rfl : i = n := by omega
        exact h2
    · intro h
      exact ⟨fun i hi => h i (by omega), h n (by omega)⟩
theorem keyOkP (s : StM) (i : Nat) : keyOk s i = true ↔ (ofL s.kept (s.kept.getD i default).step ≤ s.skip ∧ 1 ≤ (s.kept.getD i default).step ∧ (s.kept.getD i default).step < s.step ∧ ((s.kept.getD i default).step + s.step) % 2 = 1 ∧ (s.kept.getD i default).count ≤ 49) ∧ ((s.kept.getD i default).step + 1 = s.step → (s.kept.getD i default).count < s.got) ∧ (i = 0 ∨ beforeL (s.kept.getD (i - 1) default) (s.kept.getD i default) = true) := by
  rw [keyOk]
  simp only [Bool.and_eq_true, Bool.not_eq_true', Bool.or_eq_false_iff, decide_eq_false_iff_not, Bool.or_eq_true, decide_eq_true_eq, beq_eq_false_iff_ne, Bool.and_eq_false_iff]
  constructor
  · rintro ⟨⟨⟨⟨⟨⟨a, b⟩, c⟩, d⟩, e⟩, f⟩, g⟩
    refine ⟨⟨by omega, by omega, by omega, by omega, by omega⟩, fun h => ?_, g⟩
    rcases f with f | f
    · exact absurd h f
    · omega
  · rintro ⟨⟨a, b, c, d, e⟩, f, g⟩
    refine ⟨⟨⟨⟨⟨⟨by omega, by omega⟩, by omega⟩, by omega⟩, by omega⟩, ?_⟩, g⟩
    by_cases h : (s.kept.getD i default).step + 1 = s.step
    · have := f h; right; omega
    · left; exact h
theorem getD_mem {l : List EntM} {i : Nat} (h : i < l.length) : l.getD i default ∈ l := by
  rw [List.getD_eq_getElem?_getD, List.getElem?_eq_getElem h]; exact List.getElem_mem h
theorem getD_el {l : List EntM} {i : Nat} (h : i < l.length) : l.getD i default = l[i] := by
  rw [List.getD_eq_getElem?_getD, List.getElem?_eq_getElem h]; rfl
theorem rising_of (l : List EntM) (h : ∀ i, i < l.length → i = 0 ∨ beforeL (l.getD (i - 1) default) (l.getD i default) = true) : Rising l := by
  have key : ∀ j i, i < j → j < l.length → beforeL (l.getD i default) (l.getD j default) = true := by
    intro j
    induction j with
    | zero => intro i hi; omega
    | succ j ih =>
      intro i hi hj
      have h1 := h (j + 1) hj
      rcases h1 with h1 | h1
      · omega
      · rw [Nat.add_sub_cancel] at h1
        rcases Nat.lt_or_ge i j with h2 | h2
        · exact before_trans (ih i h2 (by omega)) h1
        · obtain rfl : i = j := by omega
          exact h1
  rw [Rising, List.pairwise_iff_getElem]
  intro i j hi hj hij
  have := key j i hij hj
  rw [getD_el hi, getD_el hj] at this
  exact this
theorem rising_at {l : List EntM} (h : Rising l) {i j : Nat} (hij : i < j) (hj : j < l.length) : beforeL (l.getD i default) (l.getD j default) = true := by
  rw [Rising, List.pairwise_iff_getElem] at h
  rw [getD_el (show i < l.length by omega), getD_el hj]
  exact h i j _ _ hij
theorem keysL_iff (s : StM) : keysL s = true ↔ s.kept.length ≤ s.cap ∧ KeysQ s := by
  rw [keysL, Bool.and_eq_true, decide_eq_true_eq, keysF_all]
  constructor
  · rintro ⟨h0, h⟩
    refine ⟨h0, ⟨?_, ?_, ?_⟩⟩
    · intro e he
      obtain ⟨i, hi, rfl⟩ := List.getElem_of_mem he
      have := (keyOkP s i).1 (h i hi)
      rw [getD_el hi] at this
      exact this.1.1
    · intro e he
      obtain ⟨i, hi, rfl⟩ := List.getElem_of_mem he
      have := (keyOkP s i).1 (h i hi)
      rw [getD_el hi] at this
      exact ⟨this.1.2.1, this.1.2.2.1, this.1.2.2.2.1, this.1.2.2.2.2, this.2.1⟩
    · exact rising_of s.kept fun i hi => ((keyOkP s i).1 (h i hi)).2.2
  · rintro ⟨h0, h⟩
    refine ⟨h0, fun i hi => (keyOkP s i).2 ?_⟩
    have hm := getD_mem hi; obtain ⟨a, b, c, d, e⟩ := h.lo _ hm
    refine ⟨⟨h.of _ hm, a, b, c, d⟩, e, ?_⟩
    rcases Nat.eq_zero_or_pos i with h1 | h1
    · exact .inl h1
    · exact .inr (rising_at h.srt (by omega) hi)
structure LawQ (s : StM) : Prop where
  role : s.role ≤ 1
  step : s.step ≤ 30
  par : (s.step + s.role) % 2 = 1
  skip : s.skip ≤ 12
  cap : s.cap ≤ 30
  sent : s.sent ≤ 50
  got : s.got ≤ 50
  prev : s.prev ≤ 50
  sec : Sec (s.secret : Int)
  pub : 0 < s.step → Pub (s.peer : Int)
  z0 : s.step = 0 → s.sent = 0 ∧ s.peer = 0 ∧ s.out = noneL
  z1 : s.step ≤ 1 → s.got = 0 ∧ s.inn = noneL
  z2 : s.step ≤ 2 → s.prev = 0
  keys : KeysQ s
theorem law_iff (s : StM) : lawfulL s = true ↔ LawQ s ∧ s.kept.length ≤ s.cap := by
  rw [lawfulL]
  simp only [Bool.and_eq_true, lawA, lawB, lawC, lawD, lawE, lawF, decide_eq_true_eq, keysL_iff]
  constructor
  · rintro ⟨⟨⟨⟨⟨⟨⟨a1, a2, a3, a4, a5⟩, b1, b2, b3⟩, c1, c2⟩, d⟩, e⟩, f⟩, g1, g2⟩
    exact ⟨⟨a1, a2, by omega, a4, a5, b1, b2, b3, c1, c2, d, e, f, g2⟩, g1⟩
  · rintro ⟨⟨a1, a2, a3, a4, a5, b1, b2, b3, c1, c2, d, e, f, g2⟩, g1⟩
    exact ⟨⟨⟨⟨⟨⟨⟨a1, a2, by omega, a4, a5⟩, b1, b2, b3⟩, c1, c2⟩, d⟩, e⟩, f⟩, g1, g2⟩
structure Keyed (s : StM) : Prop where
  root : s.root.length = 8
  out : s.out.length = 8
  inn : s.inn.length = 8
  kept : ∀ e ∈ s.kept, e.key.length = 8
theorem StOk.keyed {s : StM} (h : StOk s) : Keyed s := by
  obtain ⟨o0, o1, o2, o3, o4, o5, o6, o7, o8, o9, o10, o11, o12, o13⟩ := h
  exact ⟨o7, o8, o9, fun e he => (o13 e he).2.2⟩
theorem stOk_of {s : StM} (h : LawQ s) (hk : Keyed s) (hl : s.kept.length ≤ 255) : StOk s := by
  have hs := h.sec
  have hpeer : s.peer < 4294967296 := by
    rcases Nat.eq_zero_or_pos s.step with h0 | h0
    · rw [(h.z0 h0).2.1]; omega
    · have := h.pub h0; unfold Pub at this; omega
  unfold Sec at hs
  have hr := h.role; have h1 := h.step; have h2 := h.sent; have h3 := h.got; have h4 := h.prev; have h5 := h.skip; have h6 := h.cap
  exact ⟨by omega, by omega, by omega, by omega, by omega, by omega, by omega, hk.root, hk.out, hk.inn, by omega, hpeer, hl, fun e he => by
    obtain ⟨a, b, c, d, _⟩ := h.keys.lo e he
    exact ⟨by omega, by omega, hk.kept e he⟩⟩
theorem pass_law {s : StM} (h : LawQ s) (hk : Keyed s) (h2 : 2 ≤ s.step) (count : Nat) (hc : count ≤ 50) (hb : ¬ skipBad s count) : LawQ (passS s count) ∧ Keyed (passS s count) := by
  have hg := h.got
  have hn : s.got + (count - s.got) ≤ 50 := by omega
  have hof : count - s.got = 0 ∨ ofL s.kept (s.step - 1) + (count - s.got) ≤ s.skip := by
    unfold skipBad at hb; omega
  refine ⟨⟨h.role, h.step, h.par, h.skip, h.cap, h.sent, hn, h.prev, h.sec, h.pub, fun q => ?_, fun q => ?_, h.z2, ⟨?_, ?_, ?_⟩⟩, ⟨hk.root, hk.out, chainK_length _ hk.inn _, ?_⟩⟩
  · have : s.step = 0 := q; omega
  · have : s.step ≤ 1 := q; omega
  · intro e he
    show ofL (s.kept ++ spanL s.inn (s.step - 1) s.got (count - s.got)) e.step ≤ s.skip
    rw [ofL_append, ofL_span]
    rcases List.mem_append.1 he with he | he
    · have := h.keys.of e he
      by_cases q : e.step = s.step - 1
      · rw [if_pos q, q]; rw [q] at this; omega
      · rw [if_neg q]; omega
    · obtain ⟨q1, q2, q3, _⟩ := spanL_mem _ _ _ _ e he
      rw [if_pos q1, q1]; omega
  · intro e he
    show 1 ≤ e.step ∧ e.step < s.step ∧ (e.step + s.step) % 2 = 1 ∧ e.count ≤ 49 ∧ (e.step + 1 = s.step → e.count < s.got + (count - s.got))
    rcases List.mem_append.1 he with he | he
    · obtain ⟨a, b, c, d, f⟩ := h.keys.lo e he
      exact ⟨a, b, c, d, fun q => by have := f q; omega⟩
    · obtain ⟨q1, q2, q3, _⟩ := spanL_mem _ _ _ _ e he
      exact ⟨by omega, by omega, by omega, by omega, fun _ => q3⟩
  · show Rising (s.kept ++ spanL s.inn (s.step - 1) s.got (count - s.got))
    rw [Rising, List.pairwise_append]
    refine ⟨h.keys.srt, ?_, ?_⟩
    · generalize count - s.got = n
      induction n with
      | zero => exact List.Pairwise.nil
      | succ n ih =>
        rw [spanL, List.pairwise_append]
        refine ⟨ih, List.pairwise_singleton _ _, ?_⟩
        intro a ha b hb
        obtain ⟨q1, q2, q3, _⟩ := spanL_mem _ _ _ _ a ha; rw [List.mem_singleton.1 hb, before_iff]
        right; exact ⟨q1, q3⟩
    · intro a ha b hb
      obtain ⟨q1, q2, q3, _⟩ := spanL_mem _ _ _ _ b hb; obtain ⟨x1, x2, x3, x4, x5⟩ := h.keys.lo a ha; rw [before_iff]
      by_cases q : a.step + 1 = s.step
      · have := x5 q; right; omega
      · left; omega
  · intro e he
    rcases List.mem_append.1 he with he | he
    · exact hk.kept e he
    · exact (spanL_mem _ _ _ _ e he).2.2.2
theorem due_law {s : StM} (h : LawQ s) (hk : Keyed s) (h2 : 2 ≤ s.step) (count : Nat) (hc : count ≤ 49) (hge : s.got ≤ count) (hb : ¬ skipBad s count) : LawQ (dueS s count) ∧ Keyed (dueS s count) := by
  obtain ⟨p, q⟩ := pass_law h hk h2 count (by omega) hb
  refine ⟨⟨p.role, p.step, p.par, p.skip, p.cap, p.sent, by show count + 1 ≤ 50; omega, p.prev, p.sec, p.pub, fun x => ?_, fun x => ?_, p.z2, ⟨p.keys.of, ?_, p.keys.srt⟩⟩, ⟨q.root, q.out, mixed_length _ _, q.kept⟩⟩
  · have : s.step = 0 := x; omega
  · have : s.step ≤ 1 := x; omega
  · intro e he
    obtain ⟨a, b, c, d, f⟩ := p.keys.lo e he
    refine ⟨a, b, c, d, fun x => ?_⟩
    have := f x
    have e1 : (passS s count).got = s.got + (count - s.got) := rfl
    show e.count < count + 1
    omega
theorem end_law {s : StM} (h : LawQ s) (hk : Keyed s) (prev : Nat) (hp : prev ≤ 50) (hb : ¬ (2 ≤ s.step ∧ skipBad s prev)) : LawQ (endS s prev) ∧ Keyed (endS s prev) := by
  rw [endS]
  by_cases h2 : 2 ≤ s.step
  · rw [if_pos h2]; exact pass_law h hk h2 prev hp (fun x => hb ⟨h2, x⟩)
  · rw [if_neg h2]; exact ⟨h, hk⟩
theorem endS_step (s : StM) (prev : Nat) : (endS s prev).step = s.step ∧ (endS s prev).skip = s.skip ∧ (endS s prev).cap = s.cap ∧ (endS s prev).sent = s.sent ∧ (endS s prev).role = s.role ∧ (endS s prev).root = s.root ∧ (endS s prev).secret = s.secret := by
  rw [endS]; split <;> exact ⟨rfl, rfl, rfl, rfl, rfl, rfl, rfl⟩
theorem turn_law {s : StM} (h : LawQ s) (hk : Keyed s) (step pub draw : Nat) (h1 : step = s.step + 1) (h2 : step ≤ 29) (hp : Pub (pub : Int)) (hd : Sec (draw : Int)) : LawQ (turnS s step pub draw) ∧ Keyed (turnS s step pub draw) := by
  have hpar := h.par; have hz := h.z0
  refine ⟨⟨h.role, by show step + 1 ≤ 30; omega, by show (step + 1 + s.role) % 2 = 1; omega, h.skip, h.cap, Nat.zero_le _, Nat.zero_le _, h.sent, hd, fun _ => hp, fun x => ?_, fun x => ?_, fun x => ?_, ⟨h.keys.of, ?_, h.keys.srt⟩⟩, ⟨mixed_length _ _, mixed_length _ _, mixed_length _ _, hk.kept⟩⟩
  · have : step + 1 = 0 := x; omega
  · have : step + 1 ≤ 1 := x; omega
  · have : step + 1 ≤ 2 := x
    exact (hz (by omega)).1
  · intro e he
    obtain ⟨a, b, c, d, f⟩ := h.keys.lo e he
    refine ⟨a, by show e.step < step + 1; omega, by show (e.step + (step + 1)) % 2 = 1; omega, d, fun x => ?_⟩
    have : e.step + 1 = step + 1 := x; omega
theorem cap_law {s : StM} (h : LawQ s) (hk : Keyed s) : LawQ (capS s) ∧ Keyed (capS s) ∧ (capS s).kept.length ≤ (capS s).cap := by
  have hsub : ∀ e, e ∈ (capS s).kept → e ∈ s.kept := fun e he => List.mem_of_mem_drop he
  refine ⟨⟨h.role, h.step, h.par, h.skip, h.cap, h.sent, h.got, h.prev, h.sec, h.pub, h.z0, h.z1, h.z2, ⟨?_, ?_, ?_⟩⟩, ⟨hk.root, hk.out, hk.inn, fun e he => hk.kept e (hsub e he)⟩, ?_⟩
  · intro e he
    refine Nat.le_trans ?_ (h.keys.of e (hsub e he))
    exact ((List.drop_sublist _ _).filter _).length_le
  · exact fun e he => h.keys.lo e (hsub e he)
  · exact List.Pairwise.sublist (List.drop_sublist _ _) h.keys.srt
  · show (s.kept.drop (s.kept.length - s.cap)).length ≤ s.cap
    rw [List.length_drop]; omega
theorem capS_id {s : StM} (h : s.kept.length ≤ s.cap) : capS s = s := by
  rw [capS, show s.kept.length - s.cap = 0 by omega, List.drop_zero]
theorem send_law {s : StM} (h : LawQ s) (hk : Keyed s) (h0 : s.step ≠ 0) (hs : s.sent < 50) : LawQ (sendS s) ∧ Keyed (sendS s) := by
  refine ⟨⟨h.role, h.step, h.par, h.skip, h.cap, by show s.sent + 1 ≤ 50; omega, h.got, h.prev, h.sec, h.pub, fun x => absurd x h0, h.z1, h.z2, ⟨h.keys.of, h.keys.lo, h.keys.srt⟩⟩, ⟨hk.root, mixed_length _ _, hk.inn, hk.kept⟩⟩
theorem take_law {s : StM} (h : LawQ s) (hk : Keyed s) (l : LetM) (draw : Nat) (hl1 : 1 ≤ l.step) (hl2 : l.step ≤ 29) (hc : l.count ≤ 49) (hp : l.prev ≤ 50) (hpub : Pub (l.pub : Int)) (hd : Sec (draw : Int)) (hok : (takeR s l draw).1 = 0) :
    LawQ (takeR s l draw).2.2 ∧ Keyed (takeR s l draw).2.2 ∧ (takeR s l draw).2.1.length = 8 ∧ (takeR s l draw).2.2.cap = s.cap ∧ (takeR s l draw).2.2.kept.length ≤ s.kept.length + 99 := by
  have hlen : ∀ (x : StM) (n : Nat), (dueS x n).kept.length = x.kept.length + (n - x.got) := by
    intro x n
    show (x.kept ++ spanL _ _ _ _).length = _
    rw [List.length_append, spanL_length]
  rw [takeR] at hok ⊢
  by_cases h1 : l.step = s.step + 1
  · rw [if_pos h1] at hok ⊢
    by_cases h2 : 2 ≤ s.step ∧ skipBad s l.prev
    · rw [if_pos h2] at hok; simp at hok
    · rw [if_neg h2] at hok ⊢
      by_cases h3 : skipBad (turnS (endS s l.prev) l.step l.pub draw) l.count
      · rw [if_pos h3] at hok; simp at hok
      · rw [if_neg h3]; obtain ⟨e1, e2⟩ := end_law h hk l.prev hp h2
        obtain ⟨t1, t2⟩ := turn_law e1 e2 l.step l.pub draw (by rw [(endS_step s l.prev).1]; exact h1) hl2 hpub hd
        obtain ⟨d1, d2⟩ := due_law t1 t2 (by show 2 ≤ l.step + 1; omega) l.count hc (by show 0 ≤ l.count; omega) h3
        refine ⟨d1, d2, mixed_length _ _, (endS_step s l.prev).2.2.1, ?_⟩
        show (dueS _ _).kept.length ≤ _
        rw [hlen]
        show (endS s l.prev).kept.length + (l.count - 0) ≤ _
        rw [endS]
        split
        · show (s.kept ++ spanL _ _ _ _).length + _ ≤ _
          rw [List.length_append, spanL_length]; omega
        · omega
  · rw [if_neg h1] at hok ⊢
    by_cases h2 : l.step + 1 = s.step ∧ s.got ≤ l.count
    · rw [if_pos h2] at hok ⊢
      by_cases h3 : skipBad s l.count
      · rw [if_pos h3] at hok; simp at hok
      · rw [if_neg h3]
        obtain ⟨d1, d2⟩ := due_law h hk (by omega) l.count hc h2.2 h3
        refine ⟨d1, d2, mixed_length _ _, rfl, ?_⟩
        show (dueS _ _).kept.length ≤ _
        rw [hlen]; omega
    · rw [if_neg h2] at hok ⊢
      cases hf : s.kept.find? (isEnt l.step l.count) with
      | none => rw [hf] at hok; simp at hok
      | some e =>
        have hm := List.mem_of_find?_eq_some hf
        have hsub : ∀ x, x ∈ s.kept.filter (fun e => !isEnt l.step l.count e) → x ∈ s.kept := fun x hx => (List.mem_filter.1 hx).1
        refine ⟨⟨h.role, h.step, h.par, h.skip, h.cap, h.sent, h.got, h.prev, h.sec, h.pub, h.z0, h.z1, h.z2, ⟨?_, ?_, ?_⟩⟩, ⟨hk.root, hk.out, hk.inn, fun x hx => hk.kept x (hsub x hx)⟩, hk.kept e hm, rfl, ?_⟩
        · intro x hx
          exact Nat.le_trans ((List.filter_sublist).filter _).length_le (h.keys.of x (hsub x hx))
        · exact fun x hx => h.keys.lo x (hsub x hx)
        · exact List.Pairwise.sublist List.filter_sublist h.keys.srt
        · show (s.kept.filter _).length ≤ _
          have := List.length_filter_le (fun e => !isEnt l.step l.count e) s.kept
          omega
end Go.Proofs.Ytabpkohcimiceab
