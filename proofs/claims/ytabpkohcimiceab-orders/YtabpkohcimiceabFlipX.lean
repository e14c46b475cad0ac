import Derived.Test.YtabpkohcimiceabAgr
import Derived.Test.YtabpkohcimiceabCreates
import Derived.Test.YtabpkohcimiceabKeepM
import Derived.Test.YtabpkohcimiceabPartyX
import Derived.WalkKit
import Derived.WalkSpells
import Derived.WalkLawsBesides
import Derived.OwnWalk
import Derived.Laws.Rows
namespace Go.Proofs.Ytabpkohcimiceab
open Go.RowKit
set_option linter.unusedVariables false

/-! ### What a box makes of a letter of the other's -/
theorem set_app (a b : List UInt8) (j : Nat) (x : UInt8) (h : a.length ≤ j) : (a ++ b).set j x = a ++ b.set (j - a.length) x := List.set_append_right _ _ h
theorem takes_all {r : List UInt8} {a : Nat → Nat} {d : List UInt8} {k : Nat} (h : GoodD d k) (hb : BoxI r a (heldS d)) (n c p : Nat) (t : List UInt8) (draw : Int) (hs : Sec draw) (h1 : 1 ≤ n) (hn : n ≤ 29) (hc : c ≤ 49) (hp : p ≤ 50) (ht : t.length ≤ 40)
    (hk : (keyR (heldS d) { step := n, count := c, prev := p, pub := pwN 7 (a n), head := headB n c p (pwN 7 (a n)), body := sealL (keyK (chainK (chN r a n) c)) (headB n c p (pwN 7 (a n))) t } draw.toNat).1 = 0) :
    recvErr d (letB r a n c p t) draw = 0 ∧ recvTxt d (letB r a n c p t) draw = t ∧
    recvS d (letB r a n c p t) draw = capS (keyR (heldS d) { step := n, count := c, prev := p, pub := pwN 7 (a n), head := headB n c p (pwN 7 (a n)), body := sealL (keyK (chainK (chN r a n) c)) (headB n c p (pwN 7 (a n))) t } draw.toNat).2.2 ∧
    BoxI r (if n = (heldS d).step + 1 then updN a (n + 1) draw.toNat else a) (heldS (recvTo d (letB r a n c p t) draw)) ∧ GoodD (recvTo d (letB r a n c p t) draw) k ∧
    ∀ (j : Nat) (x : UInt8), 7 ≤ j → j < (letB r a n c p t).length → x ≠ (letB r a n c p t).getD j 0 → recvErr d ((letB r a n c p t).set j x) draw = 5 := by
  obtain ⟨gl, gk⟩ := good_lawQ h
  obtain ⟨f1, f2⟩ := take_fits hb gl { step := n, count := c, prev := p, pub := pwN 7 (a n), head := headB n c p (pwN 7 (a n)), body := sealL (keyK (chainK (chN r a n) c)) (headB n c p (pwN 7 (a n))) t } draw.toNat (fun _ => rfl) hk h1
  obtain ⟨o1, o2, o3⟩ := recv_opens h n c p (a n) (keyK (chainK (chN r a n) c)) t draw hs h1 hn hc hp ht hk f1
  have o1' : recvErr d (letB r a n c p t) draw = 0 := o1
  obtain ⟨g1, g2⟩ := recv_good h (letB r a n c p t) draw o1'
  refine ⟨o1, o2, o3, ?_, g1, ?_⟩
  · rw [g2]
    have o3' : recvS d (letB r a n c p t) draw = _ := o3
    rw [o3']
    exact f2.cap
  · intro j x hj hjl hx
    rw [letB_length] at hjl
    have hset : (letB r a n c p t).set j x = headB n c p (pwN 7 (a n)) ++ (sealL (keyK (chainK (chN r a n) c)) (headB n c p (pwN 7 (a n))) t).set (j - 7) x := set_app _ _ j x hj
    rw [hset]
    refine recv_shut h n c p (a n) _ draw hs h1 hn hc hp (by rw [List.length_set, sealL_length]; omega) (by rw [List.length_set, sealL_length]; omega) ?_ ?_
    · exact hk
    · have hfl := flip_shut (keyK (chainK (chN r a n) c)) (headB n c p (pwN 7 (a n))) t (headB_length _ _ _ _) j x (by rw [List.length_append, headB_length, sealL_length]; omega) hx
      have e1 : (headB n c p (pwN 7 (a n)) ++ sealL (keyK (chainK (chN r a n) c)) (headB n c p (pwN 7 (a n))) t).set j x = headB n c p (pwN 7 (a n)) ++ (sealL (keyK (chainK (chN r a n) c)) (headB n c p (pwN 7 (a n))) t).set (j - 7) x := hset
      rw [e1, take_app _ _ 7 (headB_length _ _ _ _), drop_app _ _ 7 (headB_length _ _ _ _)] at hfl
      intro q
      apply hfl
      have f1' : (keyR (heldS d) { step := n, count := c, prev := p, pub := pwN 7 (a n), head := headB n c p (pwN 7 (a n)), body := (sealL (keyK (chainK (chN r a n) c)) (headB n c p (pwN 7 (a n))) t).set (j - 7) x } draw.toNat).2.1 = keyK (chainK (chN r a n) c) := f1
      rw [f1'] at q
      exact q
/-! ### The boxes as they are made -/
theorem madeA_good (u0 u4 u5 u6 : Int) (u7 : List UInt8) (ca : Nat) (hca : ca ≤ 30) (hE : creErr (List.replicate (blankK ca u6 * 32) (0 : UInt8)) 0 (pickN u0 13) (ca : Int) (shOut (secN u5) 7) (sizedL u7 8) (secN u4) = 0) :
    ∃ k, GoodD (creTo (List.replicate (blankK ca u6 * 32) (0 : UInt8)) 0 (pickN u0 13) (ca : Int) (shOut (secN u5) 7) (sizedL u7 8) (secN u4)) k ∧ heldS (creTo (List.replicate (blankK ca u6 * 32) (0 : UInt8)) 0 (pickN u0 13) (ca : Int) (shOut (secN u5) 7) (sizedL u7 8) (secN u4)) = newS 0 (pickN u0 13).toNat ca (pwN 7 (secN u5).toNat) (sizedL u7 8) (secN u4).toNat := by
  obtain ⟨sk0, sk1⟩ := pickN_bd u0 13 (by omega)
  obtain ⟨rm0, rm1⟩ := pickN_bd u6 4 (by omega)
  have hs4 := secN_sec u4
  have hs5 := secN_sec u5
  obtain ⟨hh1, hh2, _⟩ := halfN_le ca hca
  have hbk : blankK ca u6 = 1 + 2 * halfN ca + (pickN u6 4).toNat := rfl
  have hpe : (shOut (secN u5) 7).toNat = pwN 7 (secN u5).toNat := by
    rw [shOut, if_pos ⟨hs5, by unfold Pub; omega⟩, pw, Int.toNat_natCast]
    rfl
  have hto : creTo (List.replicate (blankK ca u6 * 32) (0 : UInt8)) 0 (pickN u0 13) (ca : Int) (shOut (secN u5) 7) (sizedL u7 8) (secN u4) = packL (newS 0 (pickN u0 13).toNat ca (pwN 7 (secN u5).toNat) (sizedL u7 8) (secN u4).toNat) 0 (blankK ca u6 * 32) := by
    rw [creTo, if_pos hE, List.length_replicate, hpe, Int.toNat_natCast]; rfl
  have hpl := pwN_lt 7 (secN u5).toNat
  unfold Sec at hs4
  have hlaw := newS_lawful 0 (pickN u0 13).toNat ca (pwN 7 (secN u5).toNat) (secN u4).toNat (sizedL u7 8) (by omega) (by omega) hca (by unfold Sec; omega) (fun _ => pub_of _)
  have hok := newS_ok 0 (pickN u0 13).toNat ca (pwN 7 (secN u5).toNat) (secN u4).toNat (sizedL u7 8) (by omega) hca (sizedL_length _ _) (by omega) (by omega)
  obtain ⟨l1, l2⟩ := (law_iff _).1 hlaw
  obtain ⟨g1, g2, _⟩ := good_pack (s := newS 0 (pickN u0 13).toNat ca (pwN 7 (secN u5).toNat) (sizedL u7 8) (secN u4).toNat) 0 (blankK ca u6) l1 hok.keyed l2 (by omega) (by rw [newS_cap]; omega) (by omega)
  exact ⟨blankK ca u6, by rw [hto]; exact g1, by rw [hto]; exact g2⟩
theorem madeB_good (u2 u5 u6 : Int) (u7 : List UInt8) (cb : Nat) (hcb : cb ≤ 30) (hE : creErr (List.replicate (blankK cb u6 * 32) (0 : UInt8)) 1 (pickN u2 13) (cb : Int) 0 (sizedL u7 8) (secN u5) = 0) :
    ∃ k, GoodD (creTo (List.replicate (blankK cb u6 * 32) (0 : UInt8)) 1 (pickN u2 13) (cb : Int) 0 (sizedL u7 8) (secN u5)) k ∧ heldS (creTo (List.replicate (blankK cb u6 * 32) (0 : UInt8)) 1 (pickN u2 13) (cb : Int) 0 (sizedL u7 8) (secN u5)) = newS 1 (pickN u2 13).toNat cb 0 (sizedL u7 8) (secN u5).toNat := by
  obtain ⟨sk0, sk1⟩ := pickN_bd u2 13 (by omega)
  obtain ⟨rm0, rm1⟩ := pickN_bd u6 4 (by omega)
  have hs5 := secN_sec u5
  obtain ⟨hh1, hh2, _⟩ := halfN_le cb hcb
  have hbk : blankK cb u6 = 1 + 2 * halfN cb + (pickN u6 4).toNat := rfl
  have hto : creTo (List.replicate (blankK cb u6 * 32) (0 : UInt8)) 1 (pickN u2 13) (cb : Int) 0 (sizedL u7 8) (secN u5) = packL (newS 1 (pickN u2 13).toNat cb 0 (sizedL u7 8) (secN u5).toNat) 0 (blankK cb u6 * 32) := by
    rw [creTo, if_pos hE, List.length_replicate, Int.toNat_natCast]; rfl
  unfold Sec at hs5
  have hlaw := newS_lawful 1 (pickN u2 13).toNat cb 0 (secN u5).toNat (sizedL u7 8) (by omega) (by omega) hcb (by unfold Sec; omega) (fun q => by omega)
  have hok := newS_ok 1 (pickN u2 13).toNat cb 0 (secN u5).toNat (sizedL u7 8) (by omega) hcb (sizedL_length _ _) (by omega) (by omega)
  obtain ⟨l1, l2⟩ := (law_iff _).1 hlaw
  obtain ⟨g1, g2, _⟩ := good_pack (s := newS 1 (pickN u2 13).toNat cb 0 (sizedL u7 8) (secN u5).toNat) 0 (blankK cb u6) l1 hok.keyed l2 (by omega) (by rw [newS_cap]; omega) (by omega)
  exact ⟨blankK cb u6, by rw [hto]; exact g1, by rw [hto]; exact g2⟩
/-- The secret numbers of the first two steps. -/
def a01 (x0 x1 : Nat) : Nat → Nat := fun n => if n = 0 then x0 else x1
theorem newA_fits (r : List UInt8) (skip cap x0 x1 : Nat) : BoxI r (a01 x0 x1) (newS 0 skip cap (pwN 7 x0) r x1) := by
  have e : newS 0 skip cap (pwN 7 x0) r x1 = { role := 0, step := 1, sent := 0, got := 0, prev := 0, skip := skip, cap := cap, root := rootL r (pwN (pwN 7 x0) x1), out := chainL r (pwN (pwN 7 x0) x1), inn := noneL, secret := x1, peer := pwN 7 x0, kept := [] } := by rw [newS, if_neg (by omega)]
  rw [e]
  exact ⟨rfl, fun _ => rfl, rfl, fun _ => rfl, fun q => by have : 2 ≤ 1 := q; omega, fun e he => by simp at he⟩
theorem newB_fits (r : List UInt8) (skip cap x0 x1 : Nat) : BoxI r (a01 x0 x1) (newS 1 skip cap 0 r x0) := by
  have e : newS 1 skip cap 0 r x0 = { role := 1, step := 0, sent := 0, got := 0, prev := 0, skip := skip, cap := cap, root := r, out := noneL, inn := noneL, secret := x0, peer := 0, kept := [] } := by rw [newS, if_pos rfl]
  rw [e]
  exact ⟨rfl, fun q => by have : 1 ≤ 0 := q; omega, rfl, fun q => by have : 1 ≤ 0 := q; omega, fun q => by have : 2 ≤ 0 := q; omega, fun e he => by simp at he⟩
end Go.Proofs.Ytabpkohcimiceab

namespace Go.Proofs.Ytabpkohcimiceab
open Go.RowKit
set_option linter.unusedVariables false
set_option linter.unusedSimpArgs false

/-! ### pawlkeep.Flipped -/
theorem flip_first (r : List UInt8) (skip cap x0 x1 draw : Nat) (hs : 1 ≤ skip) (y : List UInt8) :
    (keyR (newS 1 skip cap 0 r x0) { step := 1, count := 1, prev := 0, pub := pwN 7 x1, head := headB 1 1 0 (pwN 7 x1), body := y } draw).1 = 0 ∧ (keyR (newS 1 skip cap 0 r x0) { step := 1, count := 1, prev := 0, pub := pwN 7 x1, head := headB 1 1 0 (pwN 7 x1), body := y } draw).2.2.step = 2 ∧ (keyR (newS 1 skip cap 0 r x0) { step := 1, count := 1, prev := 0, pub := pwN 7 x1, head := headB 1 1 0 (pwN 7 x1), body := y } draw).2.2.got = 2 ∧ (keyR (newS 1 skip cap 0 r x0) { step := 1, count := 1, prev := 0, pub := pwN 7 x1, head := headB 1 1 0 (pwN 7 x1), body := y } draw).2.2.cap = cap ∧ ∃ ky, (keyR (newS 1 skip cap 0 r x0) { step := 1, count := 1, prev := 0, pub := pwN 7 x1, head := headB 1 1 0 (pwN 7 x1), body := y } draw).2.2.kept = [⟨1, 0, ky⟩] := by
  have e : newS 1 skip cap 0 r x0 = { role := 1, step := 0, sent := 0, got := 0, prev := 0, skip := skip, cap := cap, root := r, out := noneL, inn := noneL, secret := x0, peer := 0, kept := [] } := by rw [newS, if_pos rfl]
  rw [e, keyR, if_neg (by show ¬ (0 + 1 < 1 ∨ 1 % 2 = 0 % 2); omega), if_pos (by show 1 = 0 + 1; rfl), turnR, if_neg (fun q => by have : 2 ≤ 0 := q.1; omega), endS, if_neg (by show ¬ 2 ≤ 0; omega), dueR, if_neg]
  · exact ⟨rfl, rfl, rfl, rfl, _, rfl⟩
  · rintro ⟨_, q⟩
    have : skip < 0 + (1 - 0) := q
    omega
theorem capS_one (s : StM) (e : EntM) (cb : Nat) (hk : s.kept = [e]) (hc : s.cap = cb) (h1 : 1 ≤ cb) : (capS s).kept = [e] := by
  show s.kept.drop (s.kept.length - s.cap) = [e]
  rw [hk, hc, show [e].length - cb = 0 by simp; omega, List.drop_zero]
theorem flip_second (s : StM) (x1 draw : Nat) (ky y : List UInt8) (h2 : s.step = 2) (hg : s.got = 2) (hk : s.kept = [⟨1, 0, ky⟩]) : (keyR s { step := 1, count := 0, prev := 0, pub := pwN 7 x1, head := headB 1 0 0 (pwN 7 x1), body := y } draw).1 = 0 := by
  rw [keyR, if_neg (by show ¬ (s.step + 1 < 1 ∨ 1 % 2 = s.step % 2); omega), if_neg (by show ¬ 1 = s.step + 1; omega), if_neg (by show ¬ (1 + 1 = s.step ∧ s.got ≤ 0); omega), oldR, hk]
  rfl

set_option maxRecDepth 100000 in
set_option maxHeartbeats 1000000 in
theorem flipped_go (u0 u1 u2 u3 u4 u5 u6 : Int) (u7 : ByteArray) (a b : ByteArray) (draw x c : Int) (w : World) (h0 : (-9223372036854775808 ≤ u0 ∧ u0 ≤ 9223372036854775807)) (h1 : (-9223372036854775808 ≤ u1 ∧ u1 ≤ 9223372036854775807)) (h2 : (-9223372036854775808 ≤ u2 ∧ u2 ≤ 9223372036854775807)) (h3 : (-9223372036854775808 ≤ u3 ∧ u3 ≤ 9223372036854775807)) (h4 : (-9223372036854775808 ≤ u4 ∧ u4 ≤ 9223372036854775807)) (h5 : (-9223372036854775808 ≤ u5 ∧ u5 ≤ 9223372036854775807)) (h6 : (-9223372036854775808 ≤ u6 ∧ u6 ≤ 9223372036854775807)) (h7 : u7.size ≤ maxLen) (ha : a.size ≤ maxLen) (hb : b.size ≤ maxLen) (hd : (-9223372036854775808 ≤ draw ∧ draw ≤ 9223372036854775807)) (hx : (-9223372036854775808 ≤ x ∧ x ≤ 9223372036854775807)) (hc : (-9223372036854775808 ≤ c ∧ c ≤ 9223372036854775807)) :
    Calls Try.prog 4 #[.agg #[.int .i64 u0, .int .i64 u1, .int .i64 u2, .int .i64 u3, .int .i64 u4, .int .i64 u5, .int .i64 u6, .string u7], .string a, .string b, .int .i64 draw, .int .i64 x, .int .i64 c] w fun e w' => e = .returned (.bool true) ∧ Below w.heap.size w w' := by
  obtain ⟨i0, i1⟩ := pickN_bd u2 12 (by omega)
  obtain ⟨j0, j1⟩ := pickN_bd u3 30 (by omega)
  have c1 := fun w => pick_any u2 12 w h2.1 h2.2 (by omega) (by omega)
  have c2 := fun w => pick_any u3 30 w h3.1 h3.2 (by omega) (by omega)
  obtain ⟨v2, hv2⟩ : ∃ v2, v2 = 1 + pickN u2 12 := ⟨_, rfl⟩
  obtain ⟨v3, hv3⟩ : ∃ v3, v3 = 1 + pickN u3 30 := ⟨_, rfl⟩
  have hp2 : pickN v2 13 = v2 := by unfold pickN; rw [if_neg (by omega)]; omega
  have hp3 : pickN v3 31 = v3 := by unfold pickN; rw [if_neg (by omega)]; omega
  obtain ⟨cp0, cp1⟩ := pickN_bd u1 31 (by omega)
  obtain ⟨ca, hca⟩ := Int.eq_ofNat_of_zero_le cp0
  obtain ⟨cb, hcb⟩ := Int.eq_ofNat_of_zero_le (show 0 ≤ pickN v3 31 by omega)
  obtain ⟨ha1, ha2⟩ := creA_ok u0 u1 v2 v3 u4 u5 u6 u7 ca hca
  obtain ⟨hb1, hb2⟩ := creB_ok u0 u1 v2 v3 u4 u5 u6 u7 cb hcb
  have c3 := fun w => begun_any u0 u1 v2 v3 u4 u5 u6 u7 ca cb w h0 h1 (by omega) (by omega) h4 h5 h6 h7 hca hcb
  have c4 := fun w => secretOf_any draw w hd.1 hd.2
  obtain ⟨ka, gA, eA⟩ := madeA_good u0 u4 u5 u6 u7.data.toList ca ha1 ha2
  obtain ⟨kb, gB, eB⟩ := madeB_good v2 u5 u6 u7.data.toList cb hb1 hb2
  have hskip : 1 ≤ (pickN v2 13).toNat := by omega
  have hcb1 : 1 ≤ cb := by omega
  have hsd := secN_sec draw
  obtain ⟨sk0, sk1⟩ := pickN_bd u0 13 (by omega)
  generalize (creTo (List.replicate (blankK ca u6 * 32) (0 : UInt8)) 0 (pickN u0 13) (ca : Int) (shOut (secN u5) 7) (sizedL u7.data.toList 8) (secN u4)) = da at *
  generalize (creTo (List.replicate (blankK cb u6 * 32) (0 : UInt8)) 1 (pickN v2 13) (cb : Int) 0 (sizedL u7.data.toList 8) (secN u5)) = db at *
  have iA := newA_fits (sizedL u7.data.toList 8) (pickN u0 13).toNat ca (secN u5).toNat (secN u4).toNat
  have iB := newB_fits (sizedL u7.data.toList 8) (pickN v2 13).toNat cb (secN u5).toNat (secN u4).toNat
  obtain ⟨f1, f2, f3, f4, ky, f5⟩ := flip_first (sizedL u7.data.toList 8) (pickN v2 13).toNat cb (secN u5).toNat (secN u4).toNat (secN draw).toNat hskip (sealL (keyK (chainK (chN (sizedL u7.data.toList 8) (a01 (secN u5).toNat (secN u4).toNat) 1) 1)) (headB 1 1 0 (pwN 7 (secN u4).toNat)) (b.data.toList.take 40))
  rw [← eA] at iA
  rw [← eB] at iB f1 f2 f3 f4 f5
  have sA : (heldS da).step = 1 ∧ (heldS da).sent = 0 ∧ (heldS da).prev = 0 := by rw [eA, newS, if_neg (by omega)]; exact ⟨rfl, rfl, rfl⟩
  have sB : (heldS db).step = 0 := by rw [eB, newS, if_pos rfl]
  clear eA eB hca hcb ha2 hb2 ha1 hb1 hp2 hp3
  -- the first letter
  have l40a : (a.data.toList.take 40).length ≤ 40 := by rw [List.length_take]; omega
  have l40b : (b.data.toList.take 40).length ≤ 40 := by rw [List.length_take]; omega
  have hE1 := send_err gA (a.data.toList.take 40) l40a (by omega) (by omega) (by omega)
  obtain ⟨gA1, eA1⟩ := send_good gA _ hE1
  have hB0 : letL (heldS da) (a.data.toList.take 40) = letB (sizedL u7.data.toList 8) (a01 (secN u5).toNat (secN u4).toNat) 1 0 0 (a.data.toList.take 40) := by rw [letL_eq iA (by omega), sA.1, sA.2.1, sA.2.2]
  have iA1 := iA.send
  rw [← eA1] at iA1
  have sA1 : (heldS (sendTo da (a.data.toList.take 40))).step = 1 ∧ (heldS (sendTo da (a.data.toList.take 40))).sent = 1 ∧ (heldS (sendTo da (a.data.toList.take 40))).prev = 0 := by
    rw [eA1]
    refine ⟨sA.1, ?_, sA.2.2⟩
    show (heldS da).sent + 1 = 1
    rw [sA.2.1]
  -- the second
  have hE2 := send_err gA1 (b.data.toList.take 40) l40b (by omega) (by omega) (by omega)
  have hB1 : letL (heldS (sendTo da (a.data.toList.take 40))) (b.data.toList.take 40) = letB (sizedL u7.data.toList 8) (a01 (secN u5).toNat (secN u4).toNat) 1 1 0 (b.data.toList.take 40) := by rw [letL_eq iA1 (by omega), sA1.1, sA1.2.1, sA1.2.2]
  -- the other box takes the second, then the first
  obtain ⟨r1, r2, r3, r4, r5, r6⟩ := takes_all gB iB 1 1 0 (b.data.toList.take 40) (secN draw) hsd (by omega) (by omega) (by omega) (by omega) l40b f1
  obtain ⟨q1, q2⟩ := recv_good gB _ _ r1
  rw [← hB1] at r1 r2 r3 r4 r5 r6 q1 q2
  rw [if_pos (by rw [sB])] at r4
  have kS : (heldS (recvTo db (letL (heldS (sendTo da (a.data.toList.take 40))) (b.data.toList.take 40)) (secN draw))).step = 2 ∧ (heldS (recvTo db (letL (heldS (sendTo da (a.data.toList.take 40))) (b.data.toList.take 40)) (secN draw))).got = 2 ∧ (heldS (recvTo db (letL (heldS (sendTo da (a.data.toList.take 40))) (b.data.toList.take 40)) (secN draw))).kept = [⟨1, 0, ky⟩] := by
    rw [q2, r3]
    exact ⟨f2, f3, capS_one _ _ _ f5 f4 hcb1⟩
  have hlb : letB (sizedL u7.data.toList 8) (a01 (secN u5).toNat (secN u4).toNat) 1 0 0 (a.data.toList.take 40) = letB (sizedL u7.data.toList 8) (updN (a01 (secN u5).toNat (secN u4).toNat) (1 + 1) (secN draw).toNat) 1 0 0 (a.data.toList.take 40) := letB_congr _ _ _ _ _ _ _ (fun i hi => (updN_ne _ _ _ i (by omega)).symm)
  have o1 := takes_all r5 r4 1 0 0 (a.data.toList.take 40) (secN draw) hsd (by omega) (by omega) (by omega) (by omega) l40a (flip_second _ _ _ ky _ kS.1 kS.2.1 kS.2.2)
  rw [← hlb, ← hB0] at o1
  obtain ⟨o1, o2, _, _, o5, o6⟩ := o1
  have n0 : (letL (heldS da) (a.data.toList.take 40)).length = 15 + (a.data.toList.take 40).length := by rw [hB0, letB_length]
  have n1 : (letL (heldS (sendTo da (a.data.toList.take 40))) (b.data.toList.take 40)).length = 15 + (b.data.toList.take 40).length := by rw [hB1, letB_length]
  clear r3 r4 q1 q2 kS hlb f1 f2 f3 f4 f5 iA iB iA1 sA sA1 sB hB0 hB1 eA1
  generalize pickN v2 13 = sb at *
  generalize pickN u0 13 = sa at *
  rw [hv2, hv3] at c3
  clear hv2 hv3
  have HgA := hid gA
  have HgA1 := hid gA1
  have HgB := hid gB
  have HE1 := hid hE1
  have HE2 := hid hE2
  have HR := hid (And.intro r1 (And.intro r2 (And.intro r5 r6)))
  have HO := hid (And.intro o1 (And.intro o2 o6))
  have HNN := hid (And.intro n0 n1)
  have HLL := hid (And.intro l40a l40b)
  clear gA gA1 gB hE1 hE2 r1 r2 r5 r6 o1 o2 o5 o6 n0 n1 l40a l40b
  have tok1 : True := trivial
  go_enter Try.func4, Try.ntmps4
  go_upto_region 3 with (first | (go_at_call 12; have _t := tok1; go_must (with_reducible refine (c1 _).mono ?_); rintro e w' ⟨rfl, hw⟩; rw [hw]; clear hw w'; clear tok1) | (go_at_call 12; go_must (with_reducible refine (c2 _).mono ?_); rintro e w' ⟨rfl, hw⟩; rw [hw]; clear hw w'))
  have hS := heap_alloc_new w (.cells #[.int .i64 u0, .int .i64 u1, .int .i64 (1 + pickN u2 12), .int .i64 (1 + pickN u3 30), .int .i64 u4, .int .i64 u5, .int .i64 u6, .string u7] 23)
  have hW : Below w.heap.size w (w.alloc (.cells #[.int .i64 u0, .int .i64 u1, .int .i64 (1 + pickN u2 12), .int .i64 (1 + pickN u3 30), .int .i64 u4, .int .i64 u5, .int .i64 u6, .string u7] 23)) := (Below.refl _ _).alloc (Nat.le_refl _) _
  generalize (w.alloc (.cells #[.int .i64 u0, .int .i64 u1, .int .i64 (1 + pickN u2 12), .int .i64 (1 + pickN u3 30), .int .i64 u4, .int .i64 u5, .int .i64 u6, .string u7] 23)) = wa at hS hW ⊢
  have HW := hid hW
  have k0 : wa.cell? ⟨w.heap.size, 0, none⟩ = some (.int .i64 u0) := cell_of_row wa _ 0 _ _ _ hS
  have k1 : wa.cell? ⟨w.heap.size, 1, none⟩ = some (.int .i64 u1) := cell_of_row wa _ 1 _ _ _ hS
  have k2 : wa.cell? ⟨w.heap.size, 2, none⟩ = some (.int .i64 (1 + pickN u2 12)) := cell_of_row wa _ 2 _ _ _ hS
  have k3 : wa.cell? ⟨w.heap.size, 3, none⟩ = some (.int .i64 (1 + pickN u3 30)) := cell_of_row wa _ 3 _ _ _ hS
  have k4 : wa.cell? ⟨w.heap.size, 4, none⟩ = some (.int .i64 u4) := cell_of_row wa _ 4 _ _ _ hS
  have k5 : wa.cell? ⟨w.heap.size, 5, none⟩ = some (.int .i64 u5) := cell_of_row wa _ 5 _ _ _ hS
  have k6 : wa.cell? ⟨w.heap.size, 6, none⟩ = some (.int .i64 u6) := cell_of_row wa _ 6 _ _ _ hS
  have k7 : wa.cell? ⟨w.heap.size, 7, none⟩ = some (.string u7) := cell_of_row wa _ 7 _ _ _ hS
  clear hS hW c1 c2
  go_upto_region 6 with (first | (go_at_call 7; go_loud (with_reducible refine (c3 _).mono ?_); rintro e w1 ⟨⟨P, Q, rfl, hPw, hPQ, hQw, hP, hQ⟩, hb1⟩))
  have hW1 : Below w.heap.size w w1 := below_tr HW.out hb1
  have hwP : w.heap.size ≤ P := Nat.le_trans HW.out.size hPw
  clear k0 k1 k2 k3 k4 k5 k6 k7 hb1 c3 HW
  have cW := writes_any P (Q + 1) (str da) (.int .i64 0) (.int .i64 1) (.int .i64 0) (.int .i64 0) (.int .i64 0) (.int .i64 sa) (.int .i64 (ca : Int)) (.int .i64 (secN u4)) (.int .i64 (secN u5)) (.slice none 0 0) none 0 0 [] 1 a ka w1 hP (World.ownsRow_nil _ _ _ _) (by omega) (by omega) (by simp) ha (by rw [str_toList]; exact HgA.out) (by omega) (by omega) (by decide) (by rw [str_toList]; exact HE1.out)
  rw [str_toList] at cW
  have cW' : Calls Try.prog 8 #[.pointer (some ⟨P, 0, none⟩), .int .i64 1, .string a] w1 _ := cW
  clear cW
  have HQ := hid hQ
  have HW1 := hid hW1
  clear hP hQ hW1
  go_upto_region 7 with (first | (go_at_call 8; go_loud (with_reducible refine cW'.mono ?_); rintro e w2 ⟨rfl, yv, yn, yc, hP2, hr2, hN2⟩))
  have hQ2 := (hN2.block Q hQw (fun q => by rcases q with q | q; omega; cases q)).trans HQ.out
  have hsz2 := hN2.size
  have cW2 := writes_any P (Q + 1) (str (sendTo da (a.data.toList.take 40))) (.int .i64 0) (.int .i64 1) (.int .i64 0) (.int .i64 0) (.int .i64 0) (.int .i64 sa) (.int .i64 (ca : Int)) (.int .i64 (secN u4)) (.int .i64 (secN u5)) (.slice none 0 0) yv yn yc [⟨letL (heldS da) (a.data.toList.take 40), a.data.toList.take 40, 1, 0, 0, 0, false⟩] 1 b ka w2 hP2 hr2 (by omega) (by omega) (by simp) hb (by rw [str_toList]; exact HgA1.out) (by omega) (by omega) (Nat.lt_of_le_of_lt (List.length_filter_le _ _) (by simp)) (by rw [str_toList]; exact HE2.out)
  rw [str_toList] at cW2
  have cW2' : Calls Try.prog 8 #[.pointer (some ⟨P, 0, none⟩), .int .i64 1, .string b] w2 _ := cW2
  clear cW2
  have hoff2 : ∀ k, k < Q + 1 → ¬ (Value.slice yv yn yc).ownBlock = some k := fun k hk q => by have := (hr2.lt k q).1; omega
  have HQ2 := hid hQ2
  have HN2 := hid hN2
  have HOFF2 := hid hoff2
  clear hP2 hr2 hN2 hQ2 HQ cW' hoff2
  go_upto_region 10 with (first | (go_at_call 8; go_loud (with_reducible refine cW2'.mono ?_); rintro e w3 ⟨rfl, zv, zn, zc, hP3, hr3, hN3⟩))
  have hQ3 := (hN3.block Q (by omega) (fun q => by rcases q with q | q; omega; exact HOFF2.out Q (by omega) q)).trans HQ2.out
  have hsz3 := hN3.size
  have HN3 := hid hN3
  clear cW2' hN3 HQ2
  have cF := refuses_any Q P (Q + 1) (str db) (str (sendTo (sendTo da (a.data.toList.take 40)) (b.data.toList.take 40))) (.int .i64 1) (.int .i64 0) (.int .i64 0) (.int .i64 0) (.int .i64 0) (.int .i64 sb) (.int .i64 (cb : Int)) (.int .i64 (secN u5)) (.int .i64 0) (.slice none 0 0) (.int .i64 0) (.int .i64 1) (.int .i64 0) (.int .i64 0) (.int .i64 0) (.int .i64 sa) (.int .i64 (ca : Int)) (.int .i64 (secN u4)) (.int .i64 (secN u5)) (.slice none 0 0) (.slice none 0 0) zv zn zc [⟨letL (heldS da) (a.data.toList.take 40), a.data.toList.take 40, 1, 0, 0, 0, false⟩, ⟨letL (heldS (sendTo da (a.data.toList.take 40))) (b.data.toList.take 40), b.data.toList.take 40, 1, 0, 0, 0, false⟩] 1 (secN draw) kb w3 hQ3 hP3 hr3 (by omega) (by omega) (by omega) (by omega) (by simp) (by simp) (by show (letL (heldS (sendTo da (a.data.toList.take 40))) (b.data.toList.take 40)).length ≤ 1000; have := HNN.out.2; have := HLL.out.2; omega) (by rw [str_toList]; exact HgB.out) x c hx hc (by show 8 ≤ (letL (heldS (sendTo da (a.data.toList.take 40))) (b.data.toList.take 40)).length; have := HNN.out.2; omega) (by rw [str_toList]; exact HR.out.2.2.2) rfl (secN_sec draw) (by rw [str_toList]; exact HR.out.1) (by rw [str_toList]; exact HR.out.2.1)
  rw [str_toList] at cF
  have cF' : Calls Try.prog 14 #[.pointer (some ⟨Q, 0, none⟩), .pointer (some ⟨P, 0, none⟩), .int .i64 1, .int .i64 (secN draw), .int .i64 x, .int .i64 c] w3 _ := cF
  have hoff3 : ∀ k, k < Q + 1 → ¬ (Value.slice zv zn zc).ownBlock = some k := fun k hk q => by have := (hr3.lt k q).1; omega
  have HOFF3 := hid hoff3
  clear hP3 hr3 hQ3 cF hoff3
  go_upto_region 11 with (first | (go_at_call 10; go_must (with_reducible refine (c4 _).mono ?_); rintro e w' ⟨rfl, hw⟩; rw [hw]; clear hw w') | (go_at_call 14; go_loud (with_reducible refine cF'.mono ?_); rintro e w4 ⟨rfl, hQ4, hP4, hr4, hN4⟩))
  have hsz4 := hN4.size
  have cG := refuses_any Q P (Q + 1) (str (recvTo db (letL (heldS (sendTo da (a.data.toList.take 40))) (b.data.toList.take 40)) (secN draw))) (str (sendTo (sendTo da (a.data.toList.take 40)) (b.data.toList.take 40))) (.int .i64 1) (.int .i64 0) (.int .i64 0) (.int .i64 0) (.int .i64 0) (.int .i64 sb) (.int .i64 (cb : Int)) (.int .i64 (secN u5)) (.int .i64 0) (.slice none 0 0) (.int .i64 0) (.int .i64 1) (.int .i64 0) (.int .i64 0) (.int .i64 0) (.int .i64 sa) (.int .i64 (ca : Int)) (.int .i64 (secN u4)) (.int .i64 (secN u5)) (.slice none 0 0) (.slice none 0 0) zv zn zc [⟨letL (heldS da) (a.data.toList.take 40), a.data.toList.take 40, 1, 0, 0, 0, false⟩, ⟨letL (heldS (sendTo da (a.data.toList.take 40))) (b.data.toList.take 40), b.data.toList.take 40, 1, 0, 0, 0, true⟩] 0 (secN draw) kb w4 hQ4 hP4 hr4 (by omega) (by omega) (by omega) (by omega) (by simp) (by simp) (by show (letL (heldS da) (a.data.toList.take 40)).length ≤ 1000; have := HNN.out.1; have := HLL.out.1; omega) (by rw [str_toList]; exact HR.out.2.2.1) x c hx hc (by show 8 ≤ (letL (heldS da) (a.data.toList.take 40)).length; have := HNN.out.1; omega) (by rw [str_toList]; exact HO.out.2.2) rfl (secN_sec draw) (by rw [str_toList]; exact HO.out.1) (by rw [str_toList]; exact HO.out.2.1)
  have cG' : Calls Try.prog 14 #[.pointer (some ⟨Q, 0, none⟩), .pointer (some ⟨P, 0, none⟩), .int .i64 0, .int .i64 (secN draw), .int .i64 x, .int .i64 c] w4 _ := cG
  have HN4 := hid hN4
  clear hQ4 hP4 hr4 hN4 cF' cG
  go_wp2_with (first | (go_at_call 10; go_must (with_reducible refine (c4 _).mono ?_); rintro e w' ⟨rfl, hw⟩; rw [hw]; clear hw w') | (go_at_call 14; go_loud (with_reducible refine cG'.mono ?_); rintro e w5 ⟨rfl, _, _, _, hN5⟩; have HN5 := hid hN5; clear hN5))
  go_ret
  refine ⟨rfl, ?_⟩
  have n1 : Below w.heap.size w1 w2 := HN2.out.below HW1.out.size (fun k q => by rcases q with q | q; omega; cases q)
  have n2 : Below w.heap.size w2 w3 := HN3.out.below (by have := HW1.out.size; omega) (fun k q => by rcases q with q | q; omega; (have := HOFF2.out k; by_cases h : k < Q + 1; exact absurd q (this h); omega))
  have n3 : Below w.heap.size w3 w4 := HN4.out.below (by have := HW1.out.size; omega) (fun k q => by rcases q with q | q; omega; (have := HOFF3.out k; by_cases h : k < Q + 1; exact absurd q (this h); omega))
  have n4 : Below w.heap.size w4 w5 := HN5.out.below (by have := HW1.out.size; omega) (fun k q => by rcases q with q | q; omega; (have := HOFF3.out k; by_cases h : k < Q + 1; exact absurd q (this h); omega))
  exact (((HW1.out.trans n1).trans n2).trans n3).trans n4
theorem flipped_walk (u0 u1 u2 u3 u4 u5 u6 : Int) (u7 : ByteArray) (a b : ByteArray) (draw x c : Int) (w0 : (Lit.int .i64 u0).wf = true) (w1 : (Lit.int .i64 u1).wf = true) (w2 : (Lit.int .i64 u2).wf = true) (w3 : (Lit.int .i64 u3).wf = true) (w4 : (Lit.int .i64 u4).wf = true) (w5 : (Lit.int .i64 u5).wf = true) (w6 : (Lit.int .i64 u6).wf = true) (w7 : u7.size ≤ maxLen) (ha : a.size ≤ maxLen) (hb : b.size ≤ maxLen) (hd : (Lit.int .i64 draw).wf = true) (hx : (Lit.int .i64 x).wf = true) (hc : (Lit.int .i64 c).wf = true) (w : World) :
    Calls Try.prog 4 #[.agg #[.int .i64 u0, .int .i64 u1, .int .i64 u2, .int .i64 u3, .int .i64 u4, .int .i64 u5, .int .i64 u6, .string u7], .string a, .string b, .int .i64 draw, .int .i64 x, .int .i64 c] w fun e w' => e = .returned (.bool true) ∧ Below w.heap.size w w' :=
  flipped_go u0 u1 u2 u3 u4 u5 u6 u7 a b draw x c w (wf_i64 w0) (wf_i64 w1) (wf_i64 w2) (wf_i64 w3) (wf_i64 w4) (wf_i64 w5) (wf_i64 w6) w7 ha hb (wf_i64 hd) (wf_i64 hx) (wf_i64 hc)
end Go.Proofs.Ytabpkohcimiceab
