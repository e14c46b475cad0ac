import Derived.Test.YtabpkohcimiceaaVeil
import Derived.Test.YtabpkohcimiceaaMixR
import Derived.WalkKit
import Derived.WalkSpells
import Derived.WalkLawsBesides
import Derived.Deep.RegionHeld3
import Derived.Deep.DeepMust
import Derived.Deep.DrawnRows
import Derived.Deep.DeepCutAuto
namespace Go.Proofs.Ytabpkohcimiceaa
open Go.RowKit
set_option linter.unusedVariables false
attribute [local go_sem ↓] Go.wp_at_zero Go.wp_at_succ
attribute [local go_sem] str_one_size str_maskB_size s_byte_size

theorem t_bytes (h c : ByteArray) : ((⟨#[116]⟩ : ByteArray) ++ h ++ c).data.toList = 116 :: (h.data.toList ++ c.data.toList) := by
  rw [ByteArray.data_append, ByteArray.data_append]; simp
theorem t_size (h c : ByteArray) : ((⟨#[116]⟩ : ByteArray) ++ h ++ c).size = 1 + h.size + c.size := by
  rw [← len_list, t_bytes]; simp; omega
theorem t_size1 (h : ByteArray) : ((⟨#[116]⟩ : ByteArray) ++ h).size = 1 + h.size := by
  rw [← len_list, ByteArray.data_append]; simp; omega
theorem str_of (s : ByteArray) : str s.data.toList = s := by
  apply ByteArray.ext; simp [str]
theorem str_veil_size (k t : List UInt8) : (str (veil k t)).size = t.length := by rw [str_size, veil_length]
theorem str_tag_size (k h c : List UInt8) : (str (tagL k h c)).size = 8 := rfl

set_option maxRecDepth 100000 in
set_option maxHeartbeats 400000 in
theorem tag_any (key h c : ByteArray) (w : World) (hk : key.size ≤ maxLen) (hh : h.size ≤ 1000) (hc : c.size ≤ 1000) :
    Calls Try.prog 115 #[.string key, .string h, .string c] w fun e w' => e = .returned (.string (str (tagL key.data.toList h.data.toList c.data.toList))) ∧ Below w.heap.size w w' := by
  have ht := t_size h c
  have ht1 := t_size1 h
  have hcon : ∀ w, Calls Try.prog 51 #[.string key, .string ((⟨#[116]⟩ : ByteArray) ++ h ++ c)] w fun e w' => e = .returned (.string (str (tagL key.data.toList h.data.toList c.data.toList))) ∧ Below w.heap.size w w' := by
    intro w
    have := keysMix_any key ((⟨#[116]⟩ : ByteArray) ++ h ++ c) w hk (by omega)
    rw [t_bytes] at this
    exact this
  go_enter Try.func115, Try.ntmps115
  go_wp2_with (go_at_call 51; refine (hcon _).mono ?_; rintro e w' ⟨rfl, hb⟩)
  go_ret
  exact ⟨rfl, hb⟩

set_option maxRecDepth 100000 in
set_option maxHeartbeats 400000 in
theorem keysSeal_any (key h t : ByteArray) (w : World) (hk : key.size ≤ maxLen) (hh : h.size ≤ 1000) (ht : t.size ≤ 1000) :
    Calls Try.prog 60 #[.string key, .string h, .string t] w fun e w' => e = .returned (.string (str (sealL key.data.toList h.data.toList t.data.toList))) ∧ Below w.heap.size w w' := by
  have hv : (str (veil key.data.toList t.data.toList)).size ≤ 1000 := by rw [str_veil_size, len_list]; exact ht
  obtain ⟨c, hc⟩ : ∃ c, c = str (veil key.data.toList t.data.toList) := ⟨_, rfl⟩
  have HC : Hid (c = str (veil key.data.toList t.data.toList)) := hc
  have h1 : ∀ w, Calls Try.prog 114 #[.string key, .string t] w fun e w' => e = .returned (.string c) ∧ Below w.heap.size w w' := by
    intro w; rw [hc]; exact veil_any key t w hk ht
  rw [← hc] at hv
  clear hc
  have hts := str_tag_size key.data.toList h.data.toList c.data.toList
  go_enter Try.func60, Try.ntmps60
  go_wp2_with (first | (go_at_call 114; refine (h1 _).mono ?_; rintro e w' ⟨rfl, hb1⟩) | (go_at_call 115; refine (tag_any key h c _ hk hh hv).mono ?_; rintro e w2 ⟨rfl, hb2⟩))
  go_ret
  refine ⟨?_, below_tr hb1 hb2⟩
  show Ending.returned (Value.string (c ++ str (tagL key.data.toList h.data.toList c.data.toList))) = _
  rw [HC.out, str_append]
  rfl

theorem ext_take (s : ByteArray) (n : Nat) : (s.extract 0 n).data.toList = s.data.toList.take n := by
  simp [ByteArray.data_extract]

theorem opens_test (key h s : ByteArray) (n : Nat) (hn : s.size = n + 8) : ((s.extract n (n + 8)).toList == (str (tagL key.data.toList h.data.toList (s.data.toList.take n))).toList) = decide (opensL key.data.toList h.data.toList s.data.toList) := by
  rw [Bool.eq_iff_iff, beq_iff_eq, decide_eq_true_eq]
  unfold opensL
  rw [ByteArray.toList_eq, ByteArray.toList_eq, ← hn, ext_drop, str_toList, len_list, hn, Nat.add_sub_cancel]

set_option maxRecDepth 100000 in
set_option maxHeartbeats 400000 in
theorem keysUnseal_yes (key h s : ByteArray) (w : World) (hk : key.size ≤ maxLen) (hh : h.size ≤ 1000) (h8 : 8 ≤ s.size) (hs : s.size ≤ 1000) (ho : opensL key.data.toList h.data.toList s.data.toList) :
    Calls Try.prog 63 #[.string key, .string h, .string s] w fun e w' => e = .returned (.tuple #[.string (str (veil key.data.toList (s.data.toList.take (s.size - 8)))), .bool true]) ∧ Below w.heap.size w w' := by
  obtain ⟨n, hn⟩ : ∃ n, s.size = n + 8 := ⟨s.size - 8, by omega⟩
  have hq := opens_test key h s n hn
  rw [decide_eq_true ho] at hq
  clear ho
  have hn' : (s.size : Int) = (n : Int) + 8 := by omega
  have hn0 : (0 : Int) ≤ (n : Int) := by omega
  have hn8 : (n : Int) ≤ (n : Int) + 8 := by omega
  have hv := veil_any key (s.extract 0 n)
  rw [ext_take] at hv
  have hsub : s.size - 8 = n := by omega
  rw [hsub]
  clear hsub
  go_enter Try.func63, Try.ntmps63
  go_upto_region 5 with fail
  go_region_held3 (fun w' => True) (trivial) (first | (go_at_call 115; go_must (refine (tag_any key h _ _ hk hh (by simp; omega)).mono ?_); rintro e w2 ⟨rfl, hb2⟩))
  go_wp2_with (go_at_call 114; refine (hv _ hk (by simp; omega)).mono ?_; rintro e w3 ⟨rfl, hb3⟩)
  go_ret2
  exact ⟨rfl, below_tr (below_tr ((Below.refl _ _).drew) hb2) hb3⟩
set_option maxRecDepth 100000 in
set_option maxHeartbeats 400000 in
theorem keysUnseal_no (key h s : ByteArray) (w : World) (hk : key.size ≤ maxLen) (hh : h.size ≤ 1000) (h8 : 8 ≤ s.size) (hs : s.size ≤ 1000) (ho : ¬ opensL key.data.toList h.data.toList s.data.toList) :
    Calls Try.prog 63 #[.string key, .string h, .string s] w fun e w' => e = .returned (.tuple #[.string ⟨#[]⟩, .bool false]) ∧ Below w.heap.size w w' := by
  obtain ⟨n, hn⟩ : ∃ n, s.size = n + 8 := ⟨s.size - 8, by omega⟩
  have hq := opens_test key h s n hn
  rw [decide_eq_false ho] at hq
  clear ho
  have hn' : (s.size : Int) = (n : Int) + 8 := by omega
  have hn0 : (0 : Int) ≤ (n : Int) := by omega
  have hn8 : (n : Int) ≤ (n : Int) + 8 := by omega
  go_enter Try.func63, Try.ntmps63
  go_upto_region 5 with fail
  go_region_held3 (fun w' => True) (trivial) (first | (go_at_call 115; go_must (refine (tag_any key h _ _ hk hh (by simp; omega)).mono ?_); rintro e w2 ⟨rfl, hb2⟩))
  go_wp2
  go_ret2
  exact ⟨rfl, below_tr ((Below.refl _ _).drew) hb2⟩
end Go.Proofs.Ytabpkohcimiceaa
