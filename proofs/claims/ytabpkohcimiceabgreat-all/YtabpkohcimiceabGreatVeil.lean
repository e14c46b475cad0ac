import Derived.Test.YtabpkohcimiceabGreatWord
import Derived.Test.YtabpkohcimiceabGreatGrund
import Derived.WalkKit
import Derived.WalkSpells
import Derived.WalkLawsBesides
import Derived.OwnWalk
import Derived.Laws.IdiomStrings
import Derived.Deep.RegionHeld3
import Derived.Deep.AppendLies
import Derived.Deep.DrawnRows
import Derived.Deep.DeepCutAuto
namespace Go.Proofs.YtabpkohcimiceabGreat
open Go.RowKit
set_option linter.unusedVariables false
attribute [local go_sem ↓] Go.wp_at_zero Go.wp_at_succ

theorem Tryz.info5 : (Tryz.prog.info? 5).map (fun i => (i.zero, i.size, i.bytes)) = some (some (.int .u8 0), 1, 1) := by kernel_rfl

theorem s_byte (b : UInt8) : ((⟨#[115]⟩ : ByteArray) ++ str [b]).data.toList = [115, b] := by
  rw [ByteArray.data_append]; simp [str]
theorem s_byte_size (b : UInt8) : ((⟨#[115]⟩ : ByteArray) ++ str [b]).size = 2 := by
  rw [← len_list, s_byte]; rfl
theorem keysMix_s (key : ByteArray) (k : Nat) (w : World) (hk : key.size ≤ maxLen) :
    Calls Tryz.prog 83 #[.string key, .string ((⟨#[115]⟩ : ByteArray) ++ str [UInt8.ofNat k])] w fun e w' => e = .returned (.string (str (maskB key.data.toList k))) ∧ Below w.heap.size w w' := by
  have h := keysMix_any key ((⟨#[115]⟩ : ByteArray) ++ str [UInt8.ofNat k]) w hk (by rw [s_byte_size]; omega)
  rw [s_byte] at h
  exact h

/-- The bytes gathered so far: the slice that slot 5 holds. -/
structure Row (w wr : World) (v : Value) (l : List UInt8) : Prop where
  below : Below w.heap.size w wr
  own : wr.ownsRow w.heap.size 5 1 v l.length (cellsOf l)
  form : ∃ g cap, v = .slice (some ⟨g, 0, none⟩) l.length cap

theorem Row.next {w wr w' : World} {v : Value} {l : List UInt8} (h : Row w wr v l) (hb : Below wr.heap.size wr w') : Row w w' v l :=
  ⟨below_tr h.below hb, ownsRow_below h.own hb, h.form⟩
theorem str_one_size (b : UInt8) : (str [b]).size = 1 := rfl
theorem str_maskB_size (key : List UInt8) (k : Nat) : (str (maskB key k)).size = 8 := rfl
attribute [local go_sem] str_one_size str_maskB_size s_byte_size

theorem byte_xor (a b : UInt8) : bits .xor .u8 (a.toNat : Int) (b.toNat : Int) = ((a ^^^ b).toNat : Int) := by
  have e1 : BitVec.ofInt 8 (a.toNat : Int) = a.toBitVec := by rw [BitVec.ofInt_natCast]; exact BitVec.ofNat_toNat _ _ |>.trans (BitVec.setWidth_eq _)
  have e2 : BitVec.ofInt 8 (b.toNat : Int) = b.toBitVec := by rw [BitVec.ofInt_natCast]; exact BitVec.ofNat_toNat _ _ |>.trans (BitVec.setWidth_eq _)
  show IntKind.u8.wrap ((BitVec.ofInt 8 (a.toNat : Int) ^^^ BitVec.ofInt 8 (b.toNat : Int)).toNat : Int) = _
  rw [e1, e2]
  show ((a ^^^ b).toNat : Int) % 2 ^ 8 = _
  exact Int.emod_eq_of_lt (Int.natCast_nonneg _) (by have := (a ^^^ b).toNat_lt; exact_mod_cast this)
theorem mask_byte (key : List UInt8) (k j : Nat) (m : ByteArray) (hm : m = str (maskB key k)) (h : j < 8) (h' : j < m.size) : m[j] = maskAt key (8 * k + j) := by
  subst hm
  rw [maskAt, show (8 * k + j) / 8 = k by omega, show (8 * k + j) % 8 = j by omega, getD_of_getElem _ _ (by rw [maskB_length]; exact h)]; rfl
theorem rest_byte (s : ByteArray) (k j : Nat) (h : 8 * k + j < s.size) (h' : j < (s.extract (k * 8) s.size).size) : (s.extract (k * 8) s.size)[j] = s.data.toList.getD (8 * k + j) 0 := by
  have e := getD_drop (s.extract (k * 8) s.size) 0 j (by omega)
  rw [ext_drop, List.drop_zero] at e
  simp only [Nat.zero_add] at e
  rw [← e, List.getD_eq_getElem?_getD, List.getElem?_drop, List.getD_eq_getElem?_getD]
  congr 2; omega
theorem Row.push {w wr w2 : World} {v : Value} {l : List UInt8} {x : Int} {o : Obj} {g cap : Nat} (c : UInt8) (h : Row w wr v l)
    (hown1 : w2.ownsRow w.heap.size 5 1 (.slice (some ⟨g, 0, none⟩) (l.length + 1) cap) (l.length + 1) (cellsOf l ++ [.int .u8 x])) (hgrow : (wr.alloc o).drew.grownBy w2 v.ownBlock) (hx : x = (c.toNat : Int)) :
    Row w w2 (.slice (some ⟨g, 0, none⟩) (l.length + 1) cap) (l ++ [c]) := by
  subst hx
  have e : (l ++ [c]).length = l.length + 1 := by simp
  refine ⟨((h.below.alloc h.below.size o).drew).grown hgrow ?_ ?_, ?_, g, cap, by rw [e]⟩
  · have := h.below.size; simp; omega
  · intro k hk; exact (h.own.lt k hk).1
  · rw [e, cellsOf_append]; exact hown1

theorem conv_row {w wr : World} {g cap : Nat} {l : List UInt8} (h : Row w wr (.slice (some ⟨g, 0, none⟩) l.length cap) l) :
    (convert 80 9 (.slice (some ⟨g, 0, none⟩) l.length cap)).run Tryz.prog wr = .ok (.string (str l)) wr :=
  run_convert_bytes_back wr 80 9 5 ⟨g, 0, none⟩ cap l Tryz.underlying80 Tryz.underlying5 Tryz.underlying9 (fun j hj => h.own.cells rfl j _ (cellsOf_at l j hj))

set_option maxRecDepth 100000 in
set_option maxHeartbeats 1000000 in
theorem veil_any (key s : ByteArray) (w : World) (hk : key.size ≤ maxLen) (hs : s.size ≤ 1000) :
    Calls Tryz.prog 134 #[.string key, .string s] w fun e w' => e = .returned (.string (str (veil key.data.toList s.data.toList))) ∧ Below w.heap.size w w' := by
  obtain ⟨i0, hi0, hz0, hz1, hz2⟩ := info_parts Tryz.info5
  have kc := conv1
  go_enter Tryz.func134, Tryz.ntmps134
  go_wp2
  go_loopg [5, 6] (s.size + 1) (fun g v b wr => ∃ k n : Nat, b = .int .i64 k ∧ s.size + 1 ≤ g + k ∧ k ≤ s.size ∧ n ≤ s.size ∧ (n = 8 * k ∨ (n = s.size ∧ s.size ≤ 8 * k)) ∧ Row w wr v (veilN key.data.toList s.data.toList n))
  case atStart =>
    refine ⟨0, 0, rfl, by omega, by omega, by omega, .inl rfl, ?_⟩
    exact ⟨(Below.refl _ _).alloc (Nat.le_refl _) _, World.ownsRow_lit w #[] 0 (Nat.le_refl _) (by unfold maxLen; omega) rfl, _, _, rfl⟩
  case round =>
    obtain ⟨k, n, rfl, hg, hk1, hn1, hn2, hR⟩ := hrel
    by_cases hlt : 8 * k < s.size
    · obtain rfl : n = 8 * k := by omega
      have HR : Hid (Row w wr u5 (veilN key.data.toList s.data.toList (8 * k))) := hR
      clear hR hn2
      go_wp2_with (go_at_call 83; refine (keysMix_s key k _ hk).mono ?_; rintro e w1 ⟨rfl, hb1⟩)
      have HR1 : Hid (Row w w1 u5 (veilN key.data.toList s.data.toList (8 * k))) := HR.out.next (below_tr ((Below.refl _ _).alloc (Nat.le_refl _) _) hb1)
      clear HR hb1
      obtain ⟨m, hm⟩ : ∃ m, m = str (maskB key.data.toList k) := ⟨_, rfl⟩
      have hm8 : m.size = 8 := by rw [hm]; rfl
      rw [← hm]
      have HM : Hid (m = str (maskB key.data.toList k)) := hm
      clear hm
      go_loopg [5, 9] 9 (fun g v i wx => ∃ j : Nat, i = .int .i64 j ∧ 9 ≤ g + j ∧ j ≤ 8 ∧ 8 * k + j ≤ s.size ∧ Row w wx v (veilN key.data.toList s.data.toList (8 * k + j)))
      case atStart => exact ⟨0, rfl, by omega, by omega, by omega, HR1.out⟩
      case round =>
        obtain ⟨j, rfl, hg2, hj8, hjs, hR⟩ := hrel
        by_cases h8 : j < 8
        · by_cases hjl : 8 * k + j < s.size
          · have HR : Hid (Row w wr u5 (veilN key.data.toList s.data.toList (8 * k + j))) := hR
            clear hR HR1
            have hown := HR.out.own
            have hbel := HR.out.below.size
            have hln : (veilN key.data.toList s.data.toList (8 * k + j)).length ≤ 1000 := by rw [veilN_length]; omega
            obtain ⟨l, hl⟩ : ∃ l, l = veilN key.data.toList s.data.toList (8 * k + j) := ⟨_, rfl⟩
            rw [← hl] at hown hln
            have HL : Hid (l = veilN key.data.toList s.data.toList (8 * k + j)) := hl
            clear hl
            go_upto_region 10 with fail
            go_region_held3 (fun w' => True) (trivial) ((refine step_append_lies _ (by rfl) _ _ _ (by rfl) w.heap.size 5 i0 _ 1 1 Tryz.underlying80 hi0 hz0 hz1 hz2 rfl (by omega) u5 l.length (cellsOf l) (by rfl) ((hown.alloc _).drew) ⟨wr.heap.size, 0, none⟩ 1 1 [.int .u8 _] (by rfl) (by rfl) (World.news_of_block (cs := #[.int .u8 _]) (t := 5) (fr := (0, 0)) (heap_alloc_new wr _)) (by simp [Value.oneCell']) (by omega) (by unfold maxLen; omega) (by omega) (by simp; omega) (wr.heap.size + 1) (by simp) ?_; intro gg cap w2 hown1 hgrow hat hlt2))
            all_goals go_wp2
            all_goals go_roundg (9 - (j + 1))
            all_goals first
              | omega
              | skip
            all_goals
              refine ⟨j + 1, by simp, by omega, by omega, by omega, ?_⟩
              have hR := HR.out
              rw [← HL.out] at hR
              rw [← Nat.add_assoc, veilN_succ, ← HL.out]
              exact hR.push _ hown1 hgrow (by rw [byte_xor, mask_byte _ k j m HM.out h8 (by omega), rest_byte s k j hjl (by simp; omega)])
          · clear HR1
            obtain ⟨e8, he8⟩ : ∃ e8, e8 = 8 * k + j := ⟨_, rfl⟩
            have HR : Hid (Row w wr u5 (veilN key.data.toList s.data.toList (8 * k + j))) := hR
            clear hR
            go_wp2
            go_roundg (s.size + 1 - (k + 1))
            case measure => omega
            case rel => exact ⟨k + 1, 8 * k + j, by simp, by omega, by omega, by omega, by omega, HR.out⟩
        · obtain rfl : j = 8 := by omega
          have HR : Hid (Row w wr u5 (veilN key.data.toList s.data.toList (8 * k + 8))) := hR
          clear hR HR1
          go_wp2
          go_roundg (s.size + 1 - (k + 1))
          case measure => omega
          case rel => exact ⟨k + 1, 8 * k + 8, by simp, by omega, by omega, by omega, by omega, HR.out⟩
    · obtain rfl : n = s.size := by omega
      obtain ⟨l, hl⟩ : ∃ l, l = veilN key.data.toList s.data.toList s.size := ⟨_, rfl⟩
      rw [← hl] at hR
      obtain ⟨g, cap, rfl⟩ := hR.form
      have hconv := conv_row hR
      have HB : Hid (Below w.heap.size w wr) := hR.below
      have HL : Hid (l = veilN key.data.toList s.data.toList s.size) := hl
      clear hR hl kc
      go_wp2
      go_ret
      refine ⟨?_, HB.out⟩
      show Ending.returned (Value.string (str l)) = _
      rw [HL.out, veil, len_list]
end Go.Proofs.YtabpkohcimiceabGreat
