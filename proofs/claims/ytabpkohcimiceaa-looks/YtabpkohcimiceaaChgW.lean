import Derived.Test.YtabpkohcimiceaaChgC
import Derived.Test.YtabpkohcimiceaaSafeM
import Derived.WalkKit
import Derived.WalkSpells
import Derived.WalkLawsBesides
import Derived.OwnWalk
namespace Go.Proofs.Ytabpkohcimiceaa
open Go.RowKit
set_option linter.unusedVariables false

theorem chgB_length (a b : List UInt8) (lo : Nat) : ∀ m, (chgB a b lo m).length ≤ m * 33
  | 0 => Nat.le_refl _
  | m + 1 => by
    rw [chgB, List.length_append]
    have := chgB_length a b lo m
    have h2 : (secL b (lo + m)).length ≤ 32 := by rw [secL, List.length_take]; exact Nat.min_le_left _ _
    split <;> simp <;> omega
theorem str_beq (x y : List UInt8) : ((str x).toList == (str y).toList) = decide (x = y) := by
  rw [ByteArray.toList_eq, ByteArray.toList_eq, str_toList, str_toList]
  by_cases h : x = y
  · subst h; simp
  · rw [decide_eq_false h, beq_eq_false_iff_ne]; exact h

set_option maxRecDepth 100000 in
set_option maxHeartbeats 1000000 in
theorem changes_nat (a b : ByteArray) (k lo hi : Nat) (w : World) (ha : a.size = k * 32) (hb : b.size = k * 32) (hk : k ≤ 40) (h1 : lo ≤ hi) (h2 : hi ≤ k) :
    Calls Try.prog 123 #[.string a, .string b, .int .i64 lo, .int .i64 hi] w fun e w' => e = .returned (.string (str (changesL a.data.toList b.data.toList lo hi))) ∧ Below w.heap.size w w' := by
  have ca := fun (i : Nat) w => sector_any a k (i : Int) w (by omega) ha (by omega)
  have cb := fun (i : Nat) w => sector_any b k (i : Int) w (by omega) hb (by omega)
  simp only [Int.toNat_natCast] at ca cb
  go_enter Try.func123, Try.ntmps123
  go_wp2
  go_loopg [9, 10] (hi + 1) (fun gg v c wr => ∃ (m g cap : Nat), ∃ l : List UInt8, c = .int .i64 (lo + m : Nat) ∧ v = .slice (some ⟨g, 0, none⟩) l.length cap ∧ lo + m ≤ hi ∧ gg + lo + m = hi + 1 + lo ∧ l.length ≤ m * 33 ∧ l = chgB a.data.toList b.data.toList lo m ∧ BRow w wr g cap l)
  case atStart => exact ⟨0, _, _, [], rfl, rfl, by omega, by omega, by simp, rfl, BRow.lit w⟩
  case round =>
    obtain ⟨m, g, cap, l, rfl, rfl, hm, hg, hll, hl, hrow⟩ := hrel
    have HL : Hid (l = chgB a.data.toList b.data.toList lo m) := hl
    clear hl
    by_cases hlt : lo + m < hi
    · have hI : ((lo + m : Nat) : Int) < (hi : Int) := by omega
      have ca1 := ca (lo + m)
      have cb1 := cb (lo + m)
      have hsl := secL_len b.data.toList (lo + m) k (by rw [len_list]; exact hb) (by omega)
      have HC : Hid (chgB a.data.toList b.data.toList lo (m + 1) = chgB a.data.toList b.data.toList lo m ++ (if secL a.data.toList (lo + m) = secL b.data.toList (lo + m) then [] else UInt8.ofNat (lo + m) :: secL b.data.toList (lo + m))) := rfl
      have hbq := str_beq (secL a.data.toList (lo + m)) (secL b.data.toList (lo + m))
      generalize secL a.data.toList (lo + m) = xa at *
      generalize secL b.data.toList (lo + m) = xb at *
      obtain ⟨q, hq⟩ : ∃ q, q = lo + m := ⟨_, rfl⟩
      rw [← hq] at ca1 cb1 hI HC ⊢
      have HQ : Hid (q = lo + m) := hq
      have hq40 : q < 40 := by omega
      clear hq ca cb
      have tok1 : True := trivial
      by_cases heq : xa = xb
      · rw [decide_eq_true heq] at hbq
        have HX : Hid (chgB a.data.toList b.data.toList lo (m + 1) = l) := by show _ = _; rw [HC.out, if_pos heq, List.append_nil, HL.out]
        clear HC heq
        go_wp2_with (first | (go_at_call 131; have _t := tok1; refine (cb1 _).mono ?_; rintro e w' ⟨rfl, hw⟩; rw [hw]; clear hw w' tok1) | (go_at_call 131; refine (ca1 _).mono ?_; rintro e w' ⟨rfl, hw⟩; rw [hw]; clear hw w'))
        go_roundg (gk - 1)
        case measure => omega
        case rel => exact ⟨m + 1, g, cap, l, by rw [HQ.out]; simp; omega, rfl, by omega, by omega, by omega, HX.out.symm, hrow⟩
      · rw [decide_eq_false heq] at hbq
        have HX : Hid (chgB a.data.toList b.data.toList lo (m + 1) = l ++ [UInt8.ofNat q] ++ xb) := by show _ = _; rw [HC.out, if_neg heq, HL.out]; simp
        clear HC heq
        have hcq : ((UInt8.ofNat q).toNat : Int) = (q : Int) := by rw [UInt8.toNat_ofNat']; omega
        have hel : (l ++ [UInt8.ofNat q]).length = l.length + 1 := by simp
        go_upto_region 7 with (first | (go_at_call 131; have _t := tok1; refine (cb1 _).mono ?_; rintro e w' ⟨rfl, hw⟩; rw [hw]; clear hw w' tok1) | (go_at_call 131; refine (ca1 _).mono ?_; rintro e w' ⟨rfl, hw⟩; rw [hw]; clear hw w'))
        go_wp2_with (first | (at_builtin; refine wpList_append_brow rfl (.tmp 27) (.tmp 30) 42 rfl (hrow.next ((Below.refl _ _).alloc (Nat.le_refl _) _)) rfl _ rfl [UInt8.ofNat q] (src_one wr (UInt8.ofNat q) _ (by rw [hcq])) (by simp; omega) ?_; intro g1 cap1 w1 hrow1) | (at_builtin; refine wpList_append_brow rfl (.tmp 32) (.tmp 33) 9 rfl hrow1 (by rw [hel]; rfl) _ rfl xb (src_string _ (str xb)) (by rw [hel]; omega) ?_; intro g2 cap2 w2 hrow2))
        go_roundg (gk - 1)
        case measure => omega
        case rel => exact ⟨m + 1, g2, cap2, _, by rw [HQ.out]; simp; omega, by simp; omega, by omega, by omega, by simp; omega, HX.out.symm, hrow2⟩
    · obtain rfl : hi = lo + m := by omega
      have hsub : lo + m - lo = m := by omega
      by_cases hnil : l = []
      · subst hnil
        have HE : Hid (changesL a.data.toList b.data.toList lo (lo + m) = []) := by show _ = _; rw [changesL, hsub, ← HL.out, if_pos rfl]
        have HB : Hid (Below w.heap.size w wr) := hrow.below
        clear hrow
        go_wp2
        go_ret
        rw [HE.out]
        exact ⟨rfl, HB.out⟩
      · have HE : Hid (changesL a.data.toList b.data.toList lo (lo + m) = l ++ [255]) := by show _ = _; rw [changesL, hsub, ← HL.out, if_neg hnil]
        have hlp : 0 < l.length := List.length_pos_iff.2 hnil
        have hlI : ((l.length : Int) == 0) = false := by rw [beq_eq_false_iff_ne]; omega
        have hel : (l ++ [(255 : UInt8)]).length = l.length + 1 := by simp
        go_wp2_with (first | (at_builtin; refine wpList_append_brow rfl (.tmp 38) (.tmp 39) 42 rfl (hrow.next ((Below.refl _ _).alloc (Nat.le_refl _) _)) rfl _ rfl [(255 : UInt8)] (src_one wr 255 _ rfl) (by simp; omega) ?_; intro g1 cap1 w1 hrow1; have hconv := conv_brow hrow1; rw [hel] at hconv))
        go_ret
        rw [HE.out]
        exact ⟨rfl, hrow1.below⟩
theorem changes_any (a b : ByteArray) (k : Nat) (lo hi : Int) (w : World) (ha : a.size = k * 32) (hb : b.size = k * 32) (hk : k ≤ 40) (h0 : 0 ≤ lo) (h1 : lo ≤ hi) (h2 : hi ≤ k) :
    Calls Try.prog 123 #[.string a, .string b, .int .i64 lo, .int .i64 hi] w fun e w' => e = .returned (.string (str (changesL a.data.toList b.data.toList lo.toNat hi.toNat))) ∧ Below w.heap.size w w' := by
  obtain ⟨lo, rfl⟩ := Int.eq_ofNat_of_zero_le h0
  obtain ⟨hi, rfl⟩ := Int.eq_ofNat_of_zero_le (show 0 ≤ hi by omega)
  exact changes_nat a b k lo hi w ha hb hk (by omega) (by omega)
end Go.Proofs.Ytabpkohcimiceaa
