import Derived.Test.YtabpkohcimiceaaRepR
import Derived.Test.YtabpkohcimiceaaDiskC
import Derived.Test.YtabpkohcimiceaaAgree
import Derived.Test.YtabpkohcimiceaaSafeM
import Derived.WalkKit
import Derived.WalkSpells
import Derived.WalkLawsBesides
namespace Go.Proofs.Ytabpkohcimiceaa
open Go.RowKit
set_option linter.unusedVariables false

set_option maxRecDepth 100000 in
set_option maxHeartbeats 400000 in
theorem short_any (s : ByteArray) (w : World) (hs : s.size ≤ maxLen) :
    Calls Try.prog 129 #[.string s] w fun e w' => (∃ k : ByteArray, e = .returned (.string k) ∧ k.size ≤ 100) ∧ w' = w := by
  unfold maxLen at hs
  by_cases h : 100 < s.size
  · have hI : (100 : Int) < (s.size : Int) := by omega
    go_enter Try.func129, Try.ntmps129
    go_wp2
    go_ret
    exact ⟨⟨_, rfl, by rw [ByteArray.size_extract]; omega⟩, rfl⟩
  · have hI : ¬ (100 : Int) < (s.size : Int) := by omega
    go_enter Try.func129, Try.ntmps129
    go_wp2
    go_ret
    exact ⟨⟨_, rfl, by omega⟩, rfl⟩

set_option maxRecDepth 100000 in
set_option maxHeartbeats 400000 in
theorem lawPick_any (c n : Int) (w : World) (h0 : -9223372036854775808 ≤ c) (h1 : c ≤ 9223372036854775807) (hn : 1 ≤ n) (hn' : n ≤ 9223372036854775807) :
    Calls Try.prog 128 #[.int .i64 c, .int .i64 n] w fun e w' => e = .returned (.int .i64 (pickN c n)) ∧ w' = w := by
  by_cases h : c < 0
  · rw [pickN, if_pos h]
    go_enter Try.func128, Try.ntmps128
    go_wp2
    go_ret
    refine ⟨?_, rfl⟩
    show Ending.returned (Value.int _ (-(c + 1).tmod n)) = _
    rw [← Int.neg_tmod, Int.tmod_eq_emod_of_nonneg (by omega)]
  · rw [pickN, if_neg h]
    go_enter Try.func128, Try.ntmps128
    go_wp2
    go_ret
    exact ⟨rfl, rfl⟩

theorem crash_ok (d p : ByteArray) (l : List RecM) (k : Nat) (m : Nat) (kp : ByteArray) (hD : isDiskL d.data.toList = true) (hk : d.size = k * 32) (hr : recsL p.data.toList k = some l) (hm : m ≤ l.length) (hkp : kp.size ≤ 100) :
    crashR d.data.toList p.data.toList (m : Int) kp.data.toList = (leftL d.data.toList l m kp.data.toList, 0) := by
  rw [crashR, if_pos hD, len_list, hk, show k * 32 / 32 = k by omega, hr]
  simp only
  rw [if_neg (by omega), if_neg (by rw [len_list]; omega), Int.toNat_natCast]

/-- The plan's records, as Records tells them: their number. -/
theorem recs_len (p : ByteArray) (k : Nat) (l : List RecM) (w : World) (hp : p.size ≤ maxLen) (hk : k ≤ 40) (hr : recsL p.data.toList k = some l) :
    Calls Try.prog 68 #[.string p, .int .i64 (k : Int)] w fun e w' => (∃ a cap, e = .returned (.tuple #[.slice a l.length cap, .bool true])) ∧ Below w.heap.size w w' := by
  have h := records_any p k w hp (by omega)
  rw [hr] at h
  refine h.mono ?_
  rintro e w' ⟨⟨v, h1, h2⟩, hb⟩
  obtain ⟨a, cap, hv⟩ := (RecsAt.of_own h2).form
  subst hv
  exact ⟨⟨a, cap, h1⟩, hb⟩

set_option maxRecDepth 100000 in
set_option maxHeartbeats 400000 in
theorem failed_any (d p : ByteArray) (l : List RecM) (k : Nat) (n : Int) (kp : ByteArray) (w : World) (hD : isDiskL d.data.toList = true) (hk : d.size = k * 32) (hk2 : k ≤ 40) (hp : p.size ≤ maxLen) (hr : recsL p.data.toList k = some l)
    (n0 : -9223372036854775808 ≤ n) (n1 : n ≤ 9223372036854775807) (hkp : kp.size ≤ maxLen) :
    Calls Try.prog 84 #[.string d, .string p, .int .i64 n, .string kp] w fun e w' => (∃ m kq, m ≤ l.length ∧ e = .returned (.tuple #[.string (str (leftL d.data.toList l m kq)), .bool true])) ∧ Below w.heap.size w w' := by
  have hl := (recsF_ok _ _ _ _ hr).1
  have c1 := fun w => recs_len p k l w hp hk2 hr
  have c2 := fun w => lawPick_any n ((l.length : Int) + 1) w n0 n1 (by omega) (by omega)
  obtain ⟨p0, p1⟩ := pickN_bd n ((l.length : Int) + 1) (by omega)
  have c3 := fun w => short_any kp w hkp
  have c4 : ∀ (m : Nat) (kq : ByteArray) w, m ≤ l.length → kq.size ≤ 100 → Calls Try.prog 32 #[.string d, .string p, .int .i64 (m : Int), .string kq] w fun e w' => e = .returned (.tuple #[.string (str (leftL d.data.toList l m kq.data.toList)), .int .i64 0]) ∧ Below w.heap.size w w' := by
    intro m kq w hm hq
    have := refCrash_any d p (m : Int) kq w (by rw [hk]; unfold maxLen; omega) hp (by unfold maxLen; omega)
    rw [crash_ok d p l k m kq hD hk hr hm hq] at this
    exact this
  obtain ⟨m, hm⟩ : ∃ m : Nat, pickN n ((l.length : Int) + 1) = (m : Int) := Int.eq_ofNat_of_zero_le p0
  rw [hm] at c2 p1
  have hml : m ≤ l.length := by omega
  have hqk : (k : Int) * 32 / 32 = (k : Int) := by omega
  clear hm p0 p1 hr hD
  go_enter Try.func84, Try.ntmps84
  go_wp2_with (first | (go_at_call 68; refine (c1 _).mono ?_; rintro e w1 ⟨⟨a, cap, rfl⟩, hb1⟩) | (go_at_call 128; refine (c2 _).mono ?_; rintro e w' ⟨rfl, hw⟩; rw [hw]; clear hw w') | (go_at_call 129; refine (c3 _).mono ?_; rintro e w' ⟨⟨kq, rfl, hkq⟩, hw⟩; rw [hw]; clear hw w') | (go_at_call 32; refine (c4 m kq _ hml hkq).mono ?_; rintro e w2 ⟨rfl, hb2⟩))
  go_ret2
  exact ⟨⟨m, kq.data.toList, hml, rfl⟩, below_tr hb1 hb2⟩

set_option maxRecDepth 100000 in
set_option maxHeartbeats 400000 in
theorem done_any (d p : ByteArray) (to_ : ByteArray) (l : List RecM) (k : Nat) (kp : ByteArray) (w : World) (hD : isDiskL d.data.toList = true) (hk : d.size = k * 32) (hk2 : k ≤ 40) (hp : p.size ≤ maxLen) (hr : recsL p.data.toList k = some l)
    (hkp : kp.size ≤ maxLen) (hdone : ∀ kq, leftL d.data.toList l l.length kq = to_.data.toList) :
    Calls Try.prog 85 #[.string d, .string p, .string kp] w fun e w' => e = .returned (.tuple #[.string to_, .bool true]) ∧ Below w.heap.size w w' := by
  have hl := (recsF_ok _ _ _ _ hr).1
  have c1 := fun w => recs_len p k l w hp hk2 hr
  have c3 := fun w => short_any kp w hkp
  have c4 : ∀ (kq : ByteArray) w, kq.size ≤ 100 → Calls Try.prog 32 #[.string d, .string p, .int .i64 (l.length : Int), .string kq] w fun e w' => e = .returned (.tuple #[.string to_, .int .i64 0]) ∧ Below w.heap.size w w' := by
    intro kq w hq
    have := refCrash_any d p (l.length : Int) kq w (by rw [hk]; unfold maxLen; omega) hp (by unfold maxLen; omega)
    rw [crash_ok d p l k l.length kq hD hk hr (Nat.le_refl _) hq, hdone, str_of] at this
    exact this
  have hqk : (k : Int) * 32 / 32 = (k : Int) := by omega
  have c5 := fun w => c4 ⟨#[]⟩ w (Nat.zero_le _)
  have tok1 : True := trivial
  clear hr hD hdone
  go_enter Try.func85, Try.ntmps85
  go_wp2_with (first | (go_at_call 68; refine (c1 _).mono ?_; rintro e w1 ⟨⟨a, cap, rfl⟩, hb1⟩) | (go_at_call 129; refine (c3 _).mono ?_; rintro e w' ⟨⟨kq, rfl, hkq⟩, hw⟩; rw [hw]; clear hw w') | (go_at_call 32; have _t := tok1; refine (c4 kq _ hkq).mono ?_; rintro e w2 ⟨rfl, hb2⟩; clear tok1) | (go_at_call 32; refine (c5 _).mono ?_; rintro e w3 ⟨rfl, hb3⟩))
  go_ret2
  exact ⟨rfl, below_tr (below_tr hb1 hb2) hb3⟩

set_option maxRecDepth 100000 in
set_option maxHeartbeats 400000 in
theorem safe_any (d from_ to_ p : ByteArray) (l : List RecM) (k : Nat) (n : Int) (kp : ByteArray) (w : World) (hD : isDiskL d.data.toList = true) (hk : d.size = k * 32) (hk2 : k ≤ 40) (hp : p.size ≤ maxLen) (hr : recsL p.data.toList k = some l)
    (n0 : -9223372036854775808 ≤ n) (n1 : n ≤ 9223372036854775807) (hkp : kp.size ≤ maxLen)
    (hdone : ∀ kq, leftL d.data.toList l l.length kq = to_.data.toList)
    (hmid : ∀ m kq, m ≤ l.length → repairR (leftL d.data.toList l m kq) = (from_.data.toList, 0) ∨ repairR (leftL d.data.toList l m kq) = (to_.data.toList, 0)) :
    Calls Try.prog 37 #[.string d, .string from_, .string to_, .string p, .int .i64 n, .string kp] w fun e w' => e = .returned (.bool true) ∧ Below w.heap.size w w' := by
  have hfit := fit_of_ok (recsF_ok _ _ _ _ hr).2
  have c1 := fun w => failed_any d p l k n kp w hD hk hk2 hp hr n0 n1 hkp
  have c2 := fun w => done_any d p to_ l k kp w hD hk hk2 hp hr hkp hdone
  have c3 : ∀ (m : Nat) (kq : List UInt8) w, m ≤ l.length → Calls Try.prog 40 #[.string (str (leftL d.data.toList l m kq))] w fun e w' => (∃ r : ByteArray, e = .returned (.tuple #[.string r, .int .i64 0]) ∧ (r = from_ ∨ r = to_)) ∧ Below w.heap.size w w' := by
    intro m kq w hm
    have hlen := leftL_length d.data.toList l m k kq (by rw [len_list]; exact hk) hfit hm
    have := repair_any (str (leftL d.data.toList l m kq)) w (by rw [str_size, hlen]; unfold maxLen; omega)
    rw [str_toList] at this
    refine this.mono ?_
    rintro e w' ⟨rfl, hb⟩
    refine ⟨?_, hb⟩
    rcases hmid m kq hm with h | h
    · exact ⟨from_, by rw [h, str_of], .inl rfl⟩
    · exact ⟨to_, by rw [h, str_of], .inr rfl⟩
  clear hmid hdone hr hD hfit
  go_enter Try.func37, Try.ntmps37
  go_upto_region 8 with (first | (go_at_call 84; refine (c1 _).mono ?_; rintro e w1 ⟨⟨m, kq, hm, rfl⟩, hb1⟩) | (go_at_call 85; refine (c2 _).mono ?_; rintro e w2 ⟨rfl, hb2⟩) | (go_at_call 40; refine (c3 m kq _ hm).mono ?_; rintro e w3 ⟨⟨r, rfl, hrr⟩, hb3⟩))
  have HB : Hid (Below w.heap.size w w3) := below_tr (below_tr hb1 hb2) hb3
  clear hb1 hb2 hb3 c1 c2 c3
  by_cases hf : r = from_
  · subst hf
    clear hrr
    go_wp2
    go_ret
    exact ⟨by simp, HB.out⟩
  · have ht : r = to_ := hrr.resolve_left hf
    subst ht
    have hne : (r.toList == from_.toList) = false := by
      rw [beq_eq_false_iff_ne]; intro h
      apply hf
      rw [ByteArray.toList_eq, ByteArray.toList_eq] at h
      rw [← str_of r, ← str_of from_, h]
    clear hrr hf
    go_wp2
    go_ret
    exact ⟨by simp, HB.out⟩
end Go.Proofs.Ytabpkohcimiceaa
