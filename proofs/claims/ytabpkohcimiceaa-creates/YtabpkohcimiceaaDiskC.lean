import Derived.Test.YtabpkohcimiceaaDiskP
import Derived.WalkKit
import Derived.WalkSpells
import Derived.WalkLawsBesides
import Derived.OwnWalk
import Derived.Deep.AppendLies
namespace Go.Proofs.Ytabpkohcimiceaa
open Go.RowKit
set_option linter.unusedVariables false

/-! ### What Crash and Apply answer: the text, the error -/
def crashR (d p : List UInt8) (n : Int) (k : List UInt8) : List UInt8 × Int :=
  if isDiskL d = true then
    match recsL p (d.length / 32) with
    | none => ([], 7)
    | some l => if n < 0 ∨ (l.length : Int) < n then ([], 3) else if 100 < k.length then ([], 2) else (leftL d l n.toNat k, 0)
  else ([], 6)
def applyR (d p : List UInt8) : List UInt8 × Int :=
  if isDiskL d = true then
    match recsL p (d.length / 32) with
    | none => ([], 7)
    | some l => (leftL d (l ++ [⟨true, 0, []⟩]) (l.length + 1) [], 0)
  else ([], 6)

theorem dataOk_of {n : Nat} {l : List RecM} (h : ∀ r ∈ l, r.ok n) : dataOk l := by
  intro r hr
  rcases h r hr with ⟨_, _, h⟩ | ⟨_, _, _, h⟩
  · rw [h]; exact Nat.zero_le _
  · rw [h]; exact Nat.le_refl _

theorem RecsAt.form {w : World} {v : Value} {l : List RecM} (h : RecsAt w v l) : ∃ a cap, v = .slice a l.length cap := by
  rcases h with ⟨h1, h2⟩ | ⟨g, cap, h1, _⟩
  · exact ⟨none, 0, by rw [h1, h2]; rfl⟩
  · exact ⟨_, cap, h1⟩

set_option maxRecDepth 100000 in
set_option maxHeartbeats 1000000 in
theorem refCrash_any (d p : ByteArray) (n : Int) (k : ByteArray) (w : World) (hd : d.size ≤ maxLen) (hp : p.size ≤ maxLen) (hk : k.size ≤ maxLen) :
    Calls Try.prog 32 #[.string d, .string p, .int .i64 n, .string k] w fun e w' => e = .returned (.tuple #[.string (str (crashR d.data.toList p.data.toList n k.data.toList).1), .int .i64 (crashR d.data.toList p.data.toList n k.data.toList).2]) ∧ Below w.heap.size w w' := by
  have c1 := fun w => isDisk_any d w hd
  cases hD : isDiskL d.data.toList with
  | false =>
    rw [hD] at c1
    have e1 : crashR d.data.toList p.data.toList n k.data.toList = ([], 6) := by rw [crashR, if_neg (by rw [hD]; simp)]
    rw [e1]
    clear e1
    go_enter Try.func32, Try.ntmps32
    go_wp2_with (go_at_call 67; refine (c1 _).mono ?_; rintro e w' ⟨rfl, hw⟩; rw [hw]; clear hw w')
    go_ret2
    exact ⟨rfl, Below.refl _ _⟩
  | true =>
    rw [hD] at c1
    have hD' : d.size % 32 = 0 ∧ 32 ≤ d.size ∧ d.size ≤ 1280 := by rw [isDiskL, decide_eq_true_eq, len_list] at hD; exact hD
    obtain ⟨hd1, hd2, hd3⟩ := hD'
    have hq : (d.size : Int) / 32 = ((d.size / 32 : Nat) : Int) := by omega
    have c2 := fun w => records_any p (d.size / 32) w hp (by omega)
    cases hR : recsL p.data.toList (d.size / 32) with
    | none =>
      have e1 : crashR d.data.toList p.data.toList n k.data.toList = ([], 7) := by rw [crashR, if_pos hD, len_list, hR]
      rw [e1]
      clear e1
      have c3 : ∀ w, Calls Try.prog 68 #[.string p, .int .i64 ((d.size : Int) / 32)] w fun e w' => e = .returned (.tuple #[.slice none 0 0, .bool false]) ∧ Below w.heap.size w w' := by
        intro w; have := c2 w; rw [hR, ← hq] at this; exact this
      clear c2 hq hR hD
      go_enter Try.func32, Try.ntmps32
      go_wp2_with (first | (go_at_call 67; refine (c1 _).mono ?_; rintro e w' ⟨rfl, hw⟩; rw [hw]; clear hw w') | (go_at_call 68; refine (c3 _).mono ?_; rintro e w2 ⟨rfl, hb⟩))
      go_ret2
      exact ⟨rfl, hb⟩
    | some l =>
      obtain ⟨hl1, hl2⟩ := recsF_ok _ _ _ _ hR
      have c3 : ∀ w, Calls Try.prog 68 #[.string p, .int .i64 ((d.size : Int) / 32)] w fun e w' => ∃ v, e = .returned (.tuple #[v, .bool true]) ∧ RecsAt w' v l ∧ Below w.heap.size w w' := by
        intro w; have := c2 w; rw [hR, ← hq] at this
        exact this.mono fun e w' ⟨⟨v, h1, h2⟩, h3⟩ => ⟨v, h1, .of_own h2, h3⟩
      have hE : crashR d.data.toList p.data.toList n k.data.toList = if n < 0 ∨ (l.length : Int) < n then ([], 3) else if 100 < k.data.toList.length then ([], 2) else (leftL d.data.toList l n.toNat k.data.toList, 0) := by rw [crashR, if_pos hD, len_list, hR]
      have hdo := dataOk_of hl2
      clear c2 hq hR hD hl2
      go_enter Try.func32, Try.ntmps32
      go_upto_region 7 with (first | (go_at_call 67; refine (c1 _).mono ?_; rintro e w' ⟨rfl, hw⟩; rw [hw]; clear hw w') | (go_at_call 68; refine (c3 _).mono ?_; rintro e w2 ⟨v, rfl, hv, hb⟩))
      obtain ⟨a, cap, hva⟩ := hv.form
      subst hva
      have HV : Hid (RecsAt w2 (.slice a l.length cap) l) := hv
      have HE : Hid (crashR d.data.toList p.data.toList n k.data.toList = if n < 0 ∨ (l.length : Int) < n then ([], 3) else if 100 < k.data.toList.length then ([], 2) else (leftL d.data.toList l n.toNat k.data.toList, 0)) := hE
      clear hv hE c1 c3
      by_cases hn0 : n < 0
      · go_wp2
        go_ret2
        rw [HE.out, if_pos (.inl hn0)]
        exact ⟨rfl, hb⟩
      by_cases hn1 : (l.length : Int) < n
      · go_wp2
        go_ret2
        rw [HE.out, if_pos (.inr hn1)]
        exact ⟨rfl, hb⟩
      by_cases hk1 : 100 < k.size
      · go_wp2
        go_ret2
        rw [HE.out, if_neg (by omega), if_pos (by rw [len_list]; exact hk1)]
        exact ⟨rfl, hb⟩
      have c4 : ∀ w, RecsAt w (.slice a l.length cap) l → Calls Try.prog 69 #[.string d, .slice a l.length cap, .int .i64 n, .string k] w fun e w' => e = .returned (.string (str (leftL d.data.toList l n.toNat k.data.toList))) ∧ w' = w := by
        intro w hh
        obtain ⟨q, rfl⟩ := Int.eq_ofNat_of_zero_le (show 0 ≤ n by omega)
        exact left_any d l _ q k w hd1 hd3 hh (by omega) (by omega) hk hdo
      go_wp2_with (go_at_call 69; refine (c4 _ HV.out).mono ?_; rintro e w3 ⟨rfl, hw⟩; rw [hw]; clear hw w3)
      go_ret2
      rw [HE.out, if_neg (by omega), if_neg (by rw [len_list]; exact hk1)]
      exact ⟨rfl, hb⟩

set_option maxRecDepth 100000 in
set_option maxHeartbeats 1000000 in
theorem refApply_any (d p : ByteArray) (w : World) (hd : d.size ≤ maxLen) (hp : p.size ≤ maxLen) :
    Calls Try.prog 30 #[.string d, .string p] w fun e w' => e = .returned (.tuple #[.string (str (applyR d.data.toList p.data.toList).1), .int .i64 (applyR d.data.toList p.data.toList).2]) ∧ Below w.heap.size w w' := by
  obtain ⟨i0, hi0, hz0, hz1, hz2⟩ := info_parts Try.infoRec
  have c1 := fun w => isDisk_any d w hd
  cases hD : isDiskL d.data.toList with
  | false =>
    rw [hD] at c1
    have e1 : applyR d.data.toList p.data.toList = ([], 6) := by rw [applyR, if_neg (by rw [hD]; simp)]
    rw [e1]
    clear e1
    go_enter Try.func30, Try.ntmps30
    go_wp2_with (go_at_call 67; refine (c1 _).mono ?_; rintro e w' ⟨rfl, hw⟩; rw [hw]; clear hw w')
    go_ret2
    exact ⟨rfl, Below.refl _ _⟩
  | true =>
    rw [hD] at c1
    have hD' : d.size % 32 = 0 ∧ 32 ≤ d.size ∧ d.size ≤ 1280 := by rw [isDiskL, decide_eq_true_eq, len_list] at hD; exact hD
    obtain ⟨hd1, hd2, hd3⟩ := hD'
    have hq : (d.size : Int) / 32 = ((d.size / 32 : Nat) : Int) := by omega
    have c2 := fun w => records_any p (d.size / 32) w hp (by omega)
    cases hR : recsL p.data.toList (d.size / 32) with
    | none =>
      have e1 : applyR d.data.toList p.data.toList = ([], 7) := by rw [applyR, if_pos hD, len_list, hR]
      rw [e1]
      clear e1
      have c3 : ∀ w, Calls Try.prog 68 #[.string p, .int .i64 ((d.size : Int) / 32)] w fun e w' => e = .returned (.tuple #[.slice none 0 0, .bool false]) ∧ Below w.heap.size w w' := by
        intro w; have := c2 w; rw [hR, ← hq] at this; exact this
      clear c2 hq hR hD
      go_enter Try.func30, Try.ntmps30
      go_wp2_with (first | (go_at_call 67; refine (c1 _).mono ?_; rintro e w' ⟨rfl, hw⟩; rw [hw]; clear hw w') | (go_at_call 68; refine (c3 _).mono ?_; rintro e w2 ⟨rfl, hb⟩))
      go_ret2
      exact ⟨rfl, hb⟩
    | some l =>
      obtain ⟨hl1, hl2⟩ := recsF_ok _ _ _ _ hR
      have c3 : ∀ w, Calls Try.prog 68 #[.string p, .int .i64 ((d.size : Int) / 32)] w fun e w' => ∃ v, e = .returned (.tuple #[v, .bool true]) ∧ w'.ownsRow w.heap.size 98 3 v l.length (recsCells l) ∧ Below w.heap.size w w' := by
        intro w; have := c2 w; rw [hR, ← hq] at this
        exact this.mono fun e w' ⟨⟨v, h1, h2⟩, h3⟩ => ⟨v, h1, h2, h3⟩
      have hE : applyR d.data.toList p.data.toList = (leftL d.data.toList (l ++ [⟨true, 0, []⟩]) (l.length + 1) [], 0) := by rw [applyR, if_pos hD, len_list, hR]
      have hdo : dataOk (l ++ [⟨true, 0, []⟩]) := by
        intro r hr
        rcases List.mem_append.1 hr with h | h
        · exact dataOk_of hl2 r h
        · rw [List.mem_singleton.1 h]; exact Nat.zero_le _
      rw [hE]
      clear c2 hq hR hD hl2 hE
      have hll : (l ++ [(⟨true, 0, []⟩ : RecM)]).length = l.length + 1 := by simp
      go_enter Try.func30, Try.ntmps30
      go_upto_region 7 with (first | (go_at_call 67; refine (c1 _).mono ?_; rintro e w' ⟨rfl, hw⟩; rw [hw]; clear hw w') | (go_at_call 68; refine (c3 _).mono ?_; rintro e w2 ⟨v, rfl, hv, hb⟩))
      have hbs := hb.size
      have HB : Hid (Below w.heap.size w w2) := hb
      clear hb
      go_wp2_with (first | (at_builtin; refine wpList_append_lies _ rfl (.tmp 24) (.tmp 26) _ rfl w.heap.size 98 i0 _ 3 32 Try.underlying94 hi0 hz0 hz1 hz2 rfl (by omega) v l.length (recsCells l) rfl (hv.alloc _) ⟨w2.heap.size, 0, none⟩ 1 1 [.bool true, .int .i64 0, .string ⟨#[]⟩] rfl rfl (World.news_of_block (cs := #[.bool true, .int .i64 0, .string ⟨#[]⟩]) (t := 98) (fr := (0, 0)) (heap_alloc_new _ _)) (by simp [Value.oneCell']) (by omega) (by unfold maxLen; omega) (by omega) (by simp; omega) (w2.heap.size + 1) (by simp) ?_; intro gg cap w3 hown2 hgrow hat hlt2) | fail)
      have hra : RecsAt w3 (.slice (some ⟨gg, 0, none⟩) (l.length + 1) cap) (l ++ [⟨true, 0, []⟩]) := by
        refine .of_own (base := w.heap.size) (e := 98) ?_
        rw [hll, recs_push]; exact hown2
      have c4 := left_any d (l ++ [⟨true, 0, []⟩]) _ (l.length + 1) ⟨#[]⟩ w3 hd1 hd3 hra (by rw [hll]; exact Nat.le_refl _) (by rw [hll]; omega) (by unfold maxLen; exact Nat.zero_le _) hdo
      have HB3 : Hid (Below w.heap.size w w3) := grown_below (HB.out.alloc hbs _) (hv.alloc _) hgrow
      have cst : ((l.length + 1 : Nat) : Int) = (l.length : Int) + 1 := by simp
      rw [cst] at c4
      clear hra hown2 hgrow hat hlt2 hv cst
      go_wp2_with (go_at_call 69; refine c4.mono ?_; rintro e w4 ⟨rfl, hw⟩; rw [hw]; clear hw w4)
      go_ret2
      exact ⟨rfl, HB3.out⟩
end Go.Proofs.Ytabpkohcimiceaa
