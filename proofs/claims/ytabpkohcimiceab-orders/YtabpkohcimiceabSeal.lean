import Derived.Test.YtabpkohcimiceabVeil
import Derived.Test.YtabpkohcimiceabMixR
import Derived.WalkKit
import Derived.WalkSpells
import Derived.WalkLawsBesides
import Derived.Deep.RegionHeld3
import Derived.Deep.DeepMust
import Derived.Deep.DrawnRows
import Derived.Deep.DeepCutAuto
namespace Go.Proofs.Ytabpkohcimiceab
open Go.RowKit
set_option linter.unusedVariables false
attribute [local go_sem ↓] Go.wp_at_zero Go.wp_at_succ
attribute [local go_sem] str_one_size str_maskB_size s_byte_size

theorem t_bytes (h c : ByteArray) : ((⟨#[116]⟩ : ByteArray) ++ h ++ c).data.toList = 116 :: (h.data.toList ++ c.data.toList) := by
  rw [ByteArray.data_append, ByteArray.data_append]; simp
theorem t_size (h c : ByteArray) : ((⟨#[116]⟩ : ByteArray) ++ h ++ c).size = 1 + h.size + c.size := by
  rw [← len_list, t_bytes]; simp; omega
theorem t_size1 (h : ByteArray) : ((⟨#[116]⟩ : ByteArray) ++ h).size = 1 + h.size := by
  rw [← len_list, ByteArray.data_append]; simp; omega
theorem str_of (s : ByteArray) : str s.data.toList = s := by
  apply ByteArray.ext; simp [str]
theorem str_veil_size (k t : List UInt8) : (str (veil k t)).size = t.length := by rw [str_size, veil_length]
theorem str_tag_size (k h c : List UInt8) : (str (tagL k h c)).size = 8 := rfl

set_option maxRecDepth 100000 in
set_option maxHeartbeats 400000 in
theorem tag_any (key h c : ByteArray) (w : World) (hk : key.size ≤ maxLen) (hh : h.size ≤ 1000) (hc : c.size ≤ 1000) :
    Calls Try.prog 83 #[.string key, .string h, .string c] w fun e w' => e = .returned (.string (str (tagL key.data.toList h.data.toList c.data.toList))) ∧ Below w.heap.size w w' := by
  have ht := t_size h c
  have ht1 := t_size1 h
  have hcon : ∀ w, Calls Try.prog 81 #[.string key, .string ((⟨#[116]⟩ : ByteArray) ++ h ++ c)] w fun e w' => e = .returned (.string (str (tagL key.data.toList h.data.toList c.data.toList))) ∧ Below w.heap.size w w' := by
    intro w
    have := keysMix_any key ((⟨#[116]⟩ : ByteArray) ++ h ++ c) w hk (by omega)
    rw [t_bytes] at this
    exact this
  go_enter Try.func83, Try.ntmps83
  go_wp2_with (go_at_call 81; refine (hcon _).mono ?_; rintro e w' ⟨rfl, hb⟩)
  go_ret
  exact ⟨rfl, hb⟩

set_option maxRecDepth 100000 in
set_option maxHeartbeats 400000 in
theorem keysSeal_any (key h t : ByteArray) (w : World) (hk : key.size ≤ maxLen) (hh : h.size ≤ 1000) (ht : t.size ≤ 1000) :
    Calls Try.prog 57 #[.string key, .string h, .string t] w fun e w' => e = .returned (.string (str (sealL key.data.toList h.data.toList t.data.toList))) ∧ Below w.heap.size w w' := by
  have hv : (str (veil key.data.toList t.data.toList)).size ≤ 1000 := by rw [str_veil_size, len_list]; exact ht
  obtain ⟨c, hc⟩ : ∃ c, c = str (veil key.data.toList t.data.toList) := ⟨_, rfl⟩
  have HC : Hid (c = str (veil key.data.toList t.data.toList)) := hc
  have h1 : ∀ w, Calls Try.prog 82 #[.string key, .string t] w fun e w' => e = .returned (.string c) ∧ Below w.heap.size w w' := by
    intro w; rw [hc]; exact veil_any key t w hk ht
  rw [← hc] at hv
  clear hc
  have hts := str_tag_size key.data.toList h.data.toList c.data.toList
  go_enter Try.func57, Try.ntmps57
  go_wp2_with (first | (go_at_call 82; refine (h1 _).mono ?_; rintro e w' ⟨rfl, hb1⟩) | (go_at_call 83; refine (tag_any key h c _ hk hh hv).mono ?_; rintro e w2 ⟨rfl, hb2⟩))
  go_ret
  refine ⟨?_, below_tr hb1 hb2⟩
  show Ending.returned (Value.string (c ++ str (tagL key.data.toList h.data.toList c.data.toList))) = _
  rw [HC.out, str_append]
  rfl

theorem ext_take (s : ByteArray) (n : Nat) : (s.extract 0 n).data.toList = s.data.toList.take n := by
  simp [ByteArray.data_extract]

theorem opens_test (key h s : ByteArray) (n : Nat) (hn : s.size = n + 8) : ((s.extract n (n + 8)).toList == (str (tagL key.data.toList h.data.toList (s.data.toList.take n))).toList) = decide (opensL key.data.toList h.data.toList s.data.toList) := by
  rw [Bool.eq_iff_iff, beq_iff_eq, decide_eq_true_eq]
  unfold opensL
  rw [ByteArray.toList_eq, ByteArray.toList_eq, ← hn, ext_drop, str_toList, len_list, hn, Nat.add_sub_cancel]

set_option maxRecDepth 100000 in
set_option maxHeartbeats 400000 in
theorem keysUnseal_yes (key h s : ByteArray) (w : World) (hk : key.size ≤ maxLen) (hh : h.size ≤ 1000) (h8 : 8 ≤ s.size) (hs : s.size ≤ 1000) (ho : opensL key.data.toList h.data.toList s.data.toList) :
    Calls Try.prog 68 #[.string key, .string h, .string s] w fun e w' => e = .returned (.tuple #[.string (str (veil key.data.toList (s.data.toList.take (s.size - 8)))), .bool true]) ∧ Below w.heap.size w w' := by
  obtain ⟨n, hn⟩ : ∃ n, s.size = n + 8 := ⟨s.size - 8, by omega⟩
  have hq := opens_test key h s n hn
  rw [decide_eq_true ho] at hq
  clear ho
  have hn' : (s.size : Int) = (n : Int) + 8 := by omega
  have hn0 : (0 : Int) ≤ (n : Int) := by omega
  have hn8 : (n : Int) ≤ (n : Int) + 8 := by omega
  have hv := veil_any key (s.extract 0 n)
  rw [ext_take] at hv
  have hsub : s.size - 8 = n := by omega
  rw [hsub]
  clear hsub
  go_enter Try.func68, Try.ntmps68
  go_upto_region 5 with fail
  go_region_held3 (fun w' => True) (trivial) (first | (go_at_call 83; go_must (refine (tag_any key h _ _ hk hh (by simp; omega)).mono ?_); rintro e w2 ⟨rfl, hb2⟩))
  go_wp2_with (go_at_call 82; refine (hv _ hk (by simp; omega)).mono ?_; rintro e w3 ⟨rfl, hb3⟩)
  go_ret2
  exact ⟨rfl, below_tr (below_tr ((Below.refl _ _).drew) hb2) hb3⟩
set_option maxRecDepth 100000 in
set_option maxHeartbeats 400000 in
theorem keysUnseal_no (key h s : ByteArray) (w : World) (hk : key.size ≤ maxLen) (hh : h.size ≤ 1000) (h8 : 8 ≤ s.size) (hs : s.size ≤ 1000) (ho : ¬ opensL key.data.toList h.data.toList s.data.toList) :
    Calls Try.prog 68 #[.string key, .string h, .string s] w fun e w' => e = .returned (.tuple #[.string ⟨#[]⟩, .bool false]) ∧ Below w.heap.size w w' := by
  obtain ⟨n, hn⟩ : ∃ n, s.size = n + 8 := ⟨s.size - 8, by omega⟩
  have hq := opens_test key h s n hn
  rw [decide_eq_false ho] at hq
  clear ho
  have hn' : (s.size : Int) = (n : Int) + 8 := by omega
  have hn0 : (0 : Int) ≤ (n : Int) := by omega
  have hn8 : (n : Int) ≤ (n : Int) + 8 := by omega
  go_enter Try.func68, Try.ntmps68
  go_upto_region 5 with fail
  go_region_held3 (fun w' => True) (trivial) (first | (go_at_call 83; go_must (refine (tag_any key h _ _ hk hh (by simp; omega)).mono ?_); rintro e w2 ⟨rfl, hb2⟩))
  go_wp2
  go_ret2
  exact ⟨rfl, below_tr ((Below.refl _ _).drew) hb2⟩
end Go.Proofs.Ytabpkohcimiceab

namespace Go.Proofs.Ytabpkohcimiceab
open Go.RowKit
set_option linter.unusedVariables false
attribute [local go_sem ↓] Go.wp_at_zero Go.wp_at_succ
attribute [local go_sem] str_one_size str_maskB_size s_byte_size

theorem str_maskL_size (key : List UInt8) (n : Nat) : (str (maskL key n)).size = n := by rw [str_size, maskL_length]

def xorN (a b : List UInt8) (n : Nat) : List UInt8 := (List.range n).map fun j => a.getD j 0 ^^^ b.getD j 0
theorem xorN_succ (a b : List UInt8) (n : Nat) : xorN a b (n + 1) = xorN a b n ++ [a.getD n 0 ^^^ b.getD n 0] := by simp [xorN, List.range_succ]
theorem xorN_size (a b : List UInt8) (n : Nat) : (str (xorN a b n)).size = n := by rw [str_size, xorN]; simp
theorem getD_at (s : ByteArray) (k : Nat) (h : k < s.size) : s.data.toList.getD k 0 = s[k] := by have := getD_drop s 0 k (by omega); simpa using this

/-- A byte as the walk shows it, under a name. -/
def ub (x : UInt8) : Int := (x.toNat : Int)
theorem ub_bd (x : UInt8) : 0 ≤ ub x ∧ ub x < 256 := by have := x.toNat_lt; unfold ub; omega
theorem ub_xor (a b : UInt8) : bits .xor .u8 (a.toNat : Int) (b.toNat : Int) = ub (a ^^^ b) := byte_xor a b
theorem wrap_ub (x : UInt8) : IntKind.i64.wrap (ub x) = ub x := by
  have h := ub_bd x
  rw [IntKind.wrap_i64]; omega
theorem ofNat_ub (x : UInt8) : UInt8.ofNat (ub x).toNat = x := by
  unfold ub; rw [Int.toNat_natCast]; exact UInt8.ofNat_toNat
attribute [local go_sem] ub_xor wrap_ub ofNat_ub

theorem xor_mask (key a : ByteArray) : xorN a.data.toList (str (maskL key.data.toList a.size)).data.toList a.size = veil key.data.toList a.data.toList := by
  rw [str_toList, ← xor_veil, len_list]; rfl

/-! ### What Seal and Unseal answer -/
def sealErr (k h t : ByteArray) : Int := if k.size = 8 then (if h.size = 7 then (if t.size ≤ 40 then 0 else 2) else 4) else 1
def sealOut (k h t : ByteArray) : ByteArray := if k.size = 8 ∧ h.size = 7 ∧ t.size ≤ 40 then str (sealL k.data.toList h.data.toList t.data.toList) else ⟨#[]⟩
def unErr (k h s : ByteArray) : Int := if k.size = 8 then (if h.size = 7 ∧ 8 ≤ s.size then (if s.size ≤ 48 then (if opensL k.data.toList h.data.toList s.data.toList then 0 else 5) else 2) else 4) else 1
def unOut (k h s : ByteArray) : ByteArray := if k.size = 8 ∧ (h.size = 7 ∧ 8 ≤ s.size) ∧ s.size ≤ 48 ∧ opensL k.data.toList h.data.toList s.data.toList then str (veil k.data.toList (s.data.toList.take (s.size - 8))) else ⟨#[]⟩
theorem sealErr_bd (k h t : ByteArray) : 0 ≤ sealErr k h t ∧ sealErr k h t ≤ 5 := by unfold sealErr; repeat' split; all_goals omega
theorem unErr_bd (k h t : ByteArray) : 0 ≤ unErr k h t ∧ unErr k h t ≤ 5 := by unfold unErr; repeat' split; all_goals omega

end Go.Proofs.Ytabpkohcimiceab
