import Derived.Test.YtabpkohcimiceabMixR
import Derived.OwnWalk
import Derived.Laws.IdiomStrings
import Derived.Deep.AppendLies
import Derived.Deep.DeepMust
namespace Go.Proofs.Ytabpkohcimiceab
set_option maxRecDepth 100000
set_option maxHeartbeats 1000000
open Go.RowKit
set_option linter.unusedVariables false
attribute [local go_sem ↓] Go.wp_at_zero Go.wp_at_succ
theorem Try.info5 : (Try.prog.info? 5).map (fun i => (i.zero, i.size, i.bytes)) = some (some (.int .u8 0), 1, 1) := by kernel_rfl
theorem s_byte (b : UInt8) : ((⟨#[115]⟩ : ByteArray) ++ str [b]).data.toList = [115, b] := by
  rw [ByteArray.data_append]; simp [str]
theorem s_byte_size (b : UInt8) : ((⟨#[115]⟩ : ByteArray) ++ str [b]).size = 2 := by
  rw [← len_list, s_byte]; rfl
theorem keysMix_s (key : ByteArray) (k : Nat) (w : World) (hk : key.size ≤ maxLen) :
    Calls Try.prog 81 #[.string key, .string ((⟨#[115]⟩ : ByteArray) ++ str [UInt8.ofNat k])] w fun e w' => e = .returned (.string (str (maskB key.data.toList k))) ∧ Below w.heap.size w w' := by
  have h := keysMix_any key ((⟨#[115]⟩ : ByteArray) ++ str [UInt8.ofNat k]) w hk (by rw [s_byte_size]; omega)
  rw [s_byte] at h
  exact h
structure Row (w wr : World) (v : Value) (l : List UInt8) : Prop where
  below : Below w.heap.size w wr
  own : wr.ownsRow w.heap.size 5 1 v l.length (cellsOf l)
  form : ∃ g cap, v = .slice (some ⟨g, 0, none⟩) l.length cap
theorem Row.next {w wr w' : World} {v : Value} {l : List UInt8} (h : Row w wr v l) (hb : Below wr.heap.size wr w') : Row w w' v l :=
  ⟨below_tr h.below hb, ownsRow_below h.own hb, h.form⟩
theorem str_one_size (b : UInt8) : (str [b]).size = 1 := rfl
theorem str_maskB_size (key : List UInt8) (k : Nat) : (str (maskB key k)).size = 8 := rfl
attribute [local go_sem] str_one_size str_maskB_size s_byte_size
theorem byte_xor (a b : UInt8) : bits .xor .u8 (a.toNat : Int) (b.toNat : Int) = ((a ^^^ b).toNat : Int) := by
  have e1 : BitVec.ofInt 8 (a.toNat : Int) = a.toBitVec := by rw [BitVec.ofInt_natCast]; exact BitVec.ofNat_toNat _ _ |>.trans (BitVec.setWidth_eq _)
  have e2 : BitVec.ofInt 8 (b.toNat : Int) = b.toBitVec := by rw [BitVec.ofInt_natCast]; exact BitVec.ofNat_toNat _ _ |>.trans (BitVec.setWidth_eq _)
  show IntKind.u8.wrap ((BitVec.ofInt 8 (a.toNat : Int) ^^^ BitVec.ofInt 8 (b.toNat : Int)).toNat : Int) = _
  rw [e1, e2]
  show ((a ^^^ b).toNat : Int) % 2 ^ 8 = _
  exact Int.emod_eq_of_lt (Int.natCast_nonneg _) (by have := (a ^^^ b).toNat_lt; exact_mod_cast this)
theorem mask_byte (key : List UInt8) (k j : Nat) (m : ByteArray) (hm : m = str (maskB key k)) (h : j < 8) (h' : j < m.size) : m[j] = maskAt key (8 * k + j) := by
  subst hm
  rw [maskAt, show (8 * k + j) / 8 = k by omega, show (8 * k + j) % 8 = j by omega, getD_of_getElem _ _ (by rw [maskB_length]; exact h)]; rfl
theorem rest_byte (s : ByteArray) (k j : Nat) (h : 8 * k + j < s.size) (h' : j < (s.extract (k * 8) s.size).size) : (s.extract (k * 8) s.size)[j] = s.data.toList.getD (8 * k + j) 0 := by
  have e := getD_drop (s.extract (k * 8) s.size) 0 j (by omega)
  rw [ext_drop, List.drop_zero] at e
  simp only [Nat.zero_add] at e
  rw [← e, List.getD_eq_getElem?_getD, List.getElem?_drop, List.getD_eq_getElem?_getD]
  congr 2; omega
theorem Row.push {w wr w2 : World} {v : Value} {l : List UInt8} {x : Int} {o : Obj} {g cap : Nat} (c : UInt8) (h : Row w wr v l)
    (hown1 : w2.ownsRow w.heap.size 5 1 (.slice (some ⟨g, 0, none⟩) (l.length + 1) cap) (l.length + 1) (cellsOf l ++ [.int .u8 x])) (hgrow : (wr.alloc o).drew.grownBy w2 v.ownBlock) (hx : x = (c.toNat : Int)) :
    Row w w2 (.slice (some ⟨g, 0, none⟩) (l.length + 1) cap) (l ++ [c]) := by
  subst hx
  have e : (l ++ [c]).length = l.length + 1 := by simp
  refine ⟨((h.below.alloc h.below.size o).drew).grown hgrow ?_ ?_, ?_, g, cap, by rw [e]⟩
  · have := h.below.size; simp; omega
  · intro k hk; exact (h.own.lt k hk).1
  · rw [e, cellsOf_append]; exact hown1
theorem conv_row {w wr : World} {g cap : Nat} {l : List UInt8} (h : Row w wr (.slice (some ⟨g, 0, none⟩) l.length cap) l) :
    (convert 76 9 (.slice (some ⟨g, 0, none⟩) l.length cap)).run Try.prog wr = .ok (.string (str l)) wr :=
  run_convert_bytes_back wr 76 9 5 ⟨g, 0, none⟩ cap l Try.underlying76 Try.underlying5 Try.underlying9 (fun j hj => h.own.cells rfl j _ (cellsOf_at l j hj))
theorem veil_any (key s : ByteArray) (w : World) (hk : key.size ≤ maxLen) (hs : s.size ≤ 1000) :
    Calls Try.prog 82 #[.string key, .string s] w fun e w' => e = .returned (.string (str (veil key.data.toList s.data.toList))) ∧ Below w.heap.size w w' := by
  obtain ⟨i0, hi0, hz0, hz1, hz2⟩ := info_parts Try.info5; have kc := conv1
  go_enter Try.func82, Try.ntmps82
  go_wp2
  go_loopg [5, 6] (s.size + 1) (fun g v b wr => ∃ k n : Nat, b = .int .i64 k ∧ s.size + 1 ≤ g + k ∧ k ≤ s.size ∧ n ≤ s.size ∧ (n = 8 * k ∨ (n = s.size ∧ s.size ≤ 8 * k)) ∧ Row w wr v (veilN key.data.toList s.data.toList n))
  case atStart =>
    refine ⟨0, 0, rfl, by omega, by omega, by omega, .inl rfl, ?_⟩
    exact ⟨(Below.refl _ _).alloc (Nat.le_refl _) _, World.ownsRow_lit w #[] 0 (Nat.le_refl _) (by unfold maxLen; omega) rfl, _, _, rfl⟩
  case round =>
    obtain ⟨k, n, rfl, hg, hk1, hn1, hn2, hR⟩ := hrel
    by_cases hlt : 8 * k < s.size
    · obtain rfl : n = 8 * k := by omega
      have HR : Hid (Row w wr u5 (veilN key.data.toList s.data.toList (8 * k))) := hR; clear hR hn2
      go_wp2_with (go_at_call 81; refine (keysMix_s key k _ hk).mono ?_; rintro e w1 ⟨rfl, hb1⟩)
      have HR1 : Hid (Row w w1 u5 (veilN key.data.toList s.data.toList (8 * k))) := HR.out.next (below_tr ((Below.refl _ _).alloc (Nat.le_refl _) _) hb1); clear HR hb1
      obtain ⟨m, hm⟩ : ∃ m, m = str (maskB key.data.toList k) := ⟨_, rfl⟩
      have hm8 : m.size = 8 := by rw [hm]; rfl
      rw [← hm]; have HM : Hid (m = str (maskB key.data.toList k)) := hm; clear hm
      go_loopg [5, 9] 9 (fun g v i wx => ∃ j : Nat, i = .int .i64 j ∧ 9 ≤ g + j ∧ j ≤ 8 ∧ 8 * k + j ≤ s.size ∧ Row w wx v (veilN key.data.toList s.data.toList (8 * k + j)))
      case atStart => exact ⟨0, rfl, by omega, by omega, by omega, HR1.out⟩
      case round =>
        obtain ⟨j, rfl, hg2, hj8, hjs, hR⟩ := hrel
        by_cases h8 : j < 8
        · by_cases hjl : 8 * k + j < s.size
          · have HR : Hid (Row w wr u5 (veilN key.data.toList s.data.toList (8 * k + j))) := hR; clear hR HR1; have hown := HR.out.own; have hbel := HR.out.below.size
            have hln : (veilN key.data.toList s.data.toList (8 * k + j)).length ≤ 1000 := by rw [veilN_length]; omega
            obtain ⟨l, hl⟩ : ∃ l, l = veilN key.data.toList s.data.toList (8 * k + j) := ⟨_, rfl⟩
            rw [← hl] at hown hln
            have HL : Hid (l = veilN key.data.toList s.data.toList (8 * k + j)) := hl; clear hl
            go_upto_region 10 with fail
            go_region_held3 (fun w' => True) (trivial) ((refine step_append_lies _ (by rfl) _ _ _ (by rfl) w.heap.size 5 i0 _ 1 1 Try.underlying76 hi0 hz0 hz1 hz2 rfl (by omega) u5 l.length (cellsOf l) (by rfl) ((hown.alloc _).drew) ⟨wr.heap.size, 0, none⟩ 1 1 [.int .u8 _] (by rfl) (by rfl) (World.news_of_block (cs := #[.int .u8 _]) (t := 5) (fr := (0, 0)) (heap_alloc_new wr _)) (by simp [Value.oneCell']) (by omega) (by unfold maxLen; omega) (by omega) (by simp; omega) (wr.heap.size + 1) (by simp) ?_; intro gg cap w2 hown1 hgrow hat hlt2))
            all_goals go_wp2
            all_goals go_roundg (9 - (j + 1))
            all_goals first
              | omega
              | skip
            all_goals
              refine ⟨j + 1, by simp, by omega, by omega, by omega, ?_⟩
              have hR := HR.out
              rw [← HL.out] at hR
              rw [← Nat.add_assoc, veilN_succ, ← HL.out]
              exact hR.push _ hown1 hgrow (by rw [byte_xor, mask_byte _ k j m HM.out h8 (by omega), rest_byte s k j hjl (by simp; omega)])
          · clear HR1
            obtain ⟨e8, he8⟩ : ∃ e8, e8 = 8 * k + j := ⟨_, rfl⟩
            have HR : Hid (Row w wr u5 (veilN key.data.toList s.data.toList (8 * k + j))) := hR; clear hR; go_wp2
            go_roundg (s.size + 1 - (k + 1))
            case measure => omega
            case rel => exact ⟨k + 1, 8 * k + j, by simp, by omega, by omega, by omega, by omega, HR.out⟩
        · obtain rfl : j = 8 := by omega
          have HR : Hid (Row w wr u5 (veilN key.data.toList s.data.toList (8 * k + 8))) := hR; clear hR HR1; go_wp2
          go_roundg (s.size + 1 - (k + 1))
          case measure => omega
          case rel => exact ⟨k + 1, 8 * k + 8, by simp, by omega, by omega, by omega, by omega, HR.out⟩
    · obtain rfl : n = s.size := by omega
      obtain ⟨l, hl⟩ : ∃ l, l = veilN key.data.toList s.data.toList s.size := ⟨_, rfl⟩
      rw [← hl] at hR
      obtain ⟨g, cap, rfl⟩ := hR.form; have hconv := conv_row hR; have HB : Hid (Below w.heap.size w wr) := hR.below; have HL : Hid (l = veilN key.data.toList s.data.toList s.size) := hl; clear hR hl kc; go_wp2; go_ret
      refine ⟨?_, HB.out⟩
      show Ending.returned (Value.string (str l)) = _
      rw [HL.out, veil, len_list]
end Go.Proofs.Ytabpkohcimiceab
namespace Go.Proofs.Ytabpkohcimiceab
set_option maxRecDepth 100000
set_option maxHeartbeats 1000000
open Go.RowKit
set_option linter.unusedVariables false
attribute [local go_sem ↓] Go.wp_at_zero Go.wp_at_succ
attribute [local go_sem] str_one_size str_maskB_size s_byte_size
theorem t_bytes (h c : ByteArray) : ((⟨#[116]⟩ : ByteArray) ++ h ++ c).data.toList = 116 :: (h.data.toList ++ c.data.toList) := by
  rw [ByteArray.data_append, ByteArray.data_append]; simp
theorem t_size (h c : ByteArray) : ((⟨#[116]⟩ : ByteArray) ++ h ++ c).size = 1 + h.size + c.size := by
  rw [← len_list, t_bytes]; simp; omega
theorem t_size1 (h : ByteArray) : ((⟨#[116]⟩ : ByteArray) ++ h).size = 1 + h.size := by
  rw [← len_list, ByteArray.data_append]; simp; omega
theorem str_of (s : ByteArray) : str s.data.toList = s := by
  apply ByteArray.ext; simp [str]
theorem str_veil_size (k t : List UInt8) : (str (veil k t)).size = t.length := by rw [str_size, veil_length]
theorem str_tag_size (k h c : List UInt8) : (str (tagL k h c)).size = 8 := rfl
theorem tag_any (key h c : ByteArray) (w : World) (hk : key.size ≤ maxLen) (hh : h.size ≤ 1000) (hc : c.size ≤ 1000) :
    Calls Try.prog 83 #[.string key, .string h, .string c] w fun e w' => e = .returned (.string (str (tagL key.data.toList h.data.toList c.data.toList))) ∧ Below w.heap.size w w' := by
  have ht := t_size h c; have ht1 := t_size1 h
  have hcon : ∀ w, Calls Try.prog 81 #[.string key, .string ((⟨#[116]⟩ : ByteArray) ++ h ++ c)] w fun e w' => e = .returned (.string (str (tagL key.data.toList h.data.toList c.data.toList))) ∧ Below w.heap.size w w' := by
    intro w
    have := keysMix_any key ((⟨#[116]⟩ : ByteArray) ++ h ++ c) w hk (by omega)
    rw [t_bytes] at this
    exact this
  go_enter Try.func83, Try.ntmps83
  go_wp2_with (go_at_call 81; refine (hcon _).mono ?_; rintro e w' ⟨rfl, hb⟩)
  go_ret; exact ⟨rfl, hb⟩
theorem keysSeal_any (key h t : ByteArray) (w : World) (hk : key.size ≤ maxLen) (hh : h.size ≤ 1000) (ht : t.size ≤ 1000) :
    Calls Try.prog 57 #[.string key, .string h, .string t] w fun e w' => e = .returned (.string (str (sealL key.data.toList h.data.toList t.data.toList))) ∧ Below w.heap.size w w' := by
  have hv : (str (veil key.data.toList t.data.toList)).size ≤ 1000 := by rw [str_veil_size, len_list]; exact ht
  obtain ⟨c, hc⟩ : ∃ c, c = str (veil key.data.toList t.data.toList) := ⟨_, rfl⟩
  have HC : Hid (c = str (veil key.data.toList t.data.toList)) := hc
  have h1 : ∀ w, Calls Try.prog 82 #[.string key, .string t] w fun e w' => e = .returned (.string c) ∧ Below w.heap.size w w' := by
    intro w; rw [hc]; exact veil_any key t w hk ht
  rw [← hc] at hv
  clear hc; have hts := str_tag_size key.data.toList h.data.toList c.data.toList
  go_enter Try.func57, Try.ntmps57
  go_wp2_with (first | (go_at_call 82; refine (h1 _).mono ?_; rintro e w' ⟨rfl, hb1⟩) | (go_at_call 83; refine (tag_any key h c _ hk hh hv).mono ?_; rintro e w2 ⟨rfl, hb2⟩))
  go_ret
  refine ⟨?_, below_tr hb1 hb2⟩
  show Ending.returned (Value.string (c ++ str (tagL key.data.toList h.data.toList c.data.toList))) = _
  rw [HC.out, str_append]
  rfl
theorem ext_take (s : ByteArray) (n : Nat) : (s.extract 0 n).data.toList = s.data.toList.take n := by
  simp [ByteArray.data_extract]
theorem opens_test (key h s : ByteArray) (n : Nat) (hn : s.size = n + 8) : ((s.extract n (n + 8)).toList == (str (tagL key.data.toList h.data.toList (s.data.toList.take n))).toList) = decide (opensL key.data.toList h.data.toList s.data.toList) := by
  rw [Bool.eq_iff_iff, beq_iff_eq, decide_eq_true_eq]
  unfold opensL
  rw [ByteArray.toList_eq, ByteArray.toList_eq, ← hn, ext_drop, str_toList, len_list, hn, Nat.add_sub_cancel]
theorem keysUnseal_yes (key h s : ByteArray) (w : World) (hk : key.size ≤ maxLen) (hh : h.size ≤ 1000) (h8 : 8 ≤ s.size) (hs : s.size ≤ 1000) (ho : opensL key.data.toList h.data.toList s.data.toList) :
    Calls Try.prog 68 #[.string key, .string h, .string s] w fun e w' => e = .returned (.tuple #[.string (str (veil key.data.toList (s.data.toList.take (s.size - 8)))), .bool true]) ∧ Below w.heap.size w w' := by
  obtain ⟨n, hn⟩ : ∃ n, s.size = n + 8 := ⟨s.size - 8, by omega⟩
  have hq := opens_test key h s n hn
  rw [decide_eq_true ho] at hq
  clear ho
  have hn' : (s.size : Int) = (n : Int) + 8 := by omega
  have hn0 : (0 : Int) ≤ (n : Int) := by omega
  have hn8 : (n : Int) ≤ (n : Int) + 8 := by omega
  have hv := veil_any key (s.extract 0 n)
  rw [ext_take] at hv
  have hsub : s.size - 8 = n := by omega
  rw [hsub]; clear hsub
  go_enter Try.func68, Try.ntmps68
  go_upto_region 5 with fail
  go_region_held3 (fun w' => True) (trivial) (first | (go_at_call 83; go_must (refine (tag_any key h _ _ hk hh (by simp; omega)).mono ?_); rintro e w2 ⟨rfl, hb2⟩))
  go_wp2_with (go_at_call 82; refine (hv _ hk (by simp; omega)).mono ?_; rintro e w3 ⟨rfl, hb3⟩)
  go_ret2; exact ⟨rfl, below_tr (below_tr ((Below.refl _ _).drew) hb2) hb3⟩
theorem keysUnseal_no (key h s : ByteArray) (w : World) (hk : key.size ≤ maxLen) (hh : h.size ≤ 1000) (h8 : 8 ≤ s.size) (hs : s.size ≤ 1000) (ho : ¬ opensL key.data.toList h.data.toList s.data.toList) :
    Calls Try.prog 68 #[.string key, .string h, .string s] w fun e w' => e = .returned (.tuple #[.string ⟨#[]⟩, .bool false]) ∧ Below w.heap.size w w' := by
  obtain ⟨n, hn⟩ : ∃ n, s.size = n + 8 := ⟨s.size - 8, by omega⟩
  have hq := opens_test key h s n hn
  rw [decide_eq_false ho] at hq
  clear ho
  have hn' : (s.size : Int) = (n : Int) + 8 := by omega
  have hn0 : (0 : Int) ≤ (n : Int) := by omega
  have hn8 : (n : Int) ≤ (n : Int) + 8 := by omega
  go_enter Try.func68, Try.ntmps68
  go_upto_region 5 with fail
  go_region_held3 (fun w' => True) (trivial) (first | (go_at_call 83; go_must (refine (tag_any key h _ _ hk hh (by simp; omega)).mono ?_); rintro e w2 ⟨rfl, hb2⟩))
  go_wp2; go_ret2; exact ⟨rfl, below_tr ((Below.refl _ _).drew) hb2⟩
end Go.Proofs.Ytabpkohcimiceab
namespace Go.Proofs.Ytabpkohcimiceab
set_option maxRecDepth 100000
set_option maxHeartbeats 1000000
open Go.RowKit
set_option linter.unusedVariables false
attribute [local go_sem ↓] Go.wp_at_zero Go.wp_at_succ
attribute [local go_sem] str_one_size str_maskB_size s_byte_size
theorem getD_at (s : ByteArray) (k : Nat) (h : k < s.size) : s.data.toList.getD k 0 = s[k] := by have := getD_drop s 0 k (by omega); simpa using this
def ub (x : UInt8) : Int := (x.toNat : Int)
theorem ub_bd (x : UInt8) : 0 ≤ ub x ∧ ub x < 256 := by have := x.toNat_lt; unfold ub; omega
theorem ub_xor (a b : UInt8) : bits .xor .u8 (a.toNat : Int) (b.toNat : Int) = ub (a ^^^ b) := byte_xor a b
theorem wrap_ub (x : UInt8) : IntKind.i64.wrap (ub x) = ub x := by
  have h := ub_bd x
  rw [IntKind.wrap_i64]; omega
theorem ofNat_ub (x : UInt8) : UInt8.ofNat (ub x).toNat = x := by
  unfold ub; rw [Int.toNat_natCast]; exact UInt8.ofNat_toNat
attribute [local go_sem] ub_xor wrap_ub ofNat_ub
end Go.Proofs.Ytabpkohcimiceab
