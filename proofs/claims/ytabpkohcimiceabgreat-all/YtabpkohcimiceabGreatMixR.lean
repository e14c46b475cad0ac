import Derived.Test.YtabpkohcimiceabGreatWord
import Derived.Deep.RegionHeld3
import Derived.Deep.RegionWith
import Derived.Deep.DrawnRows
import Derived.Deep.DeepCutAuto
namespace Go.Proofs.YtabpkohcimiceabGreat
set_option maxRecDepth 100000
set_option maxHeartbeats 1000000
open Go.RowKit
set_option linter.unusedVariables false
theorem wrap_u (x : W32) : IntKind.i64.wrap (u x) = u x := by
  have h := u_bd x
  obtain ⟨v, hv⟩ : ∃ v, v = u x := ⟨_, rfl⟩
  rw [← hv] at h ⊢
  show (if (true && decide (v % 2 ^ 64 ≥ 2 ^ 63)) = true then v % 2 ^ 64 - 2 ^ 64 else v % 2 ^ 64) = v
  rw [if_neg (by simp; omega)]
  omega
attribute [local go_sem ↓] Go.wp_at_zero Go.wp_at_succ
attribute [local go_sem] u_xor xor_len wd_take str_four_size wrap_u
structure Pair (w wr : World) (x y : W32) : Prop where
  below : Below w.heap.size w wr
  size : w.heap.size < wr.heap.size
  c0 : wr.cell? ⟨w.heap.size, 0, none⟩ = some (.int .u32 (u x))
  c1 : wr.cell? ⟨w.heap.size, 1, none⟩ = some (.int .u32 (u y))
  f0 : wr.frozen? ⟨w.heap.size, 0, none⟩ = false
  f1 : wr.frozen? ⟨w.heap.size, 1, none⟩ = false
theorem Pair.drew {w wr : World} {x y : W32} (h : Pair w wr x y) : Pair w wr.drew x y := ⟨h.below.drew, h.size, h.c0, h.c1, h.f0, h.f1⟩
theorem Pair.alloc {w wr : World} {x y : W32} (h : Pair w wr x y) (o : Obj) : Pair w (wr.alloc o) x y :=
  ⟨h.below.alloc h.below.size o, by have := h.size; simp; omega,
   by rw [World.cell?_alloc_old _ _ _ (by have := h.size; simp; omega)]; exact h.c0,
   by rw [World.cell?_alloc_old _ _ _ (by have := h.size; simp; omega)]; exact h.c1,
   by rw [World.frozen?_alloc_old _ _ _ (by have := h.size; simp; omega)]; exact h.f0,
   by rw [World.frozen?_alloc_old _ _ _ (by have := h.size; simp; omega)]; exact h.f1⟩
theorem Pair.set {w wr : World} {x y : W32} (h : Pair w wr x y) (x' y' : W32) :
    Pair w ((wr.setCell ⟨w.heap.size, 0, none⟩ (.int .u32 (u x'))).setCell ⟨w.heap.size, 1, none⟩ (.int .u32 (u y'))) x' y' :=
  ⟨(h.below.setCell (Nat.le_refl _) _).setCell (Nat.le_refl _) _, by rw [World.size_setCell, World.size_setCell]; exact h.size,
   by rw [World.cell?_setCell_other _ _ _ _ (by simp)]; exact World.cell?_setCell_same _ _ _ h.c0,
   World.cell?_setCell_same _ _ _ (by rw [World.cell?_setCell_other _ _ _ _ (by simp)]; exact h.c1),
   by rw [World.frozen?_setCell, World.frozen?_setCell]; exact h.f0,
   by rw [World.frozen?_setCell, World.frozen?_setCell]; exact h.f1⟩
theorem mixed_any (key s : ByteArray) (w : World) (hk : key.size = 8) (hs : s.size ≤ 1000000) :
    Calls Tryz.prog 84 #[.string key, .string s] w fun e w' => e = .returned (.string (str (mixed key.data.toList s.data.toList))) ∧ Below w.heap.size w w' := by
  have hs' : s.size ≤ maxLen := by unfold maxLen; omega
  have hk8 : (key.size : Int) = 8 := by omega
  go_enter Tryz.func84, Tryz.ntmps84
  go_upto_region 3 with fail
  go_cut [5] (fun p wx => p = .pointer (some ⟨w.heap.size, 0, none⟩) ∧ Pair w wx (wd key.data.toList) (wd (key.data.toList.drop 4)))
  case first =>
    go_region_held3 (fun w' => True) (trivial) (first | (go_at_call 132; refine (word_any _ _ (by simp [maxLen]; omega)).mono ?_; rintro e w' ⟨rfl, rfl⟩))
    all_goals
      go_wp2_with fail
      go_meet
      case rel =>
        refine ⟨rfl, ?_, ?_, ?_, ?_, ?_, ?_⟩
        · repeat (first | exact Below.refl _ _ | apply Below.drew | (refine Below.setCell ?_ (by simp) _) | (refine Below.alloc ?_ (by simp) _))
        · simp
        · simp [go_sem]
        · simp [go_sem]
        · simp [go_sem]
        · simp [go_sem]
  case rest =>
    obtain ⟨rfl, hP⟩ := hcut; clear hk8 hk hs'; go_wp2
    go_loopg [6] s.size (fun k r wr => ∃ (x y : W32) (l : ByteArray), l.size ≤ k ∧ k ≤ s.size ∧ r = .string l ∧ absorb l.data.toList (x, y) = absorb s.data.toList (wd key.data.toList, wd (key.data.toList.drop 4)) ∧ Pair w wr x y)
    case atStart => exact ⟨_, _, s, Nat.le_refl _, Nat.le_refl _, rfl, rfl, hP⟩
    case round =>
      clear hP; obtain ⟨x, y, l, hl, hgk, rfl, hr, hP⟩ := hrel; have HP : Hid (Pair w wr x y) := hP; obtain ⟨hb, hz, hc0, hc1, hf0, hf1⟩ := hP; have HR : Hid (absorb l.data.toList (x, y) = absorb s.data.toList (wd key.data.toList, wd (key.data.toList.drop 4))) := hr; clear hr hb
      by_cases hlt : 0 < l.size
      · go_upto_region 6 with fail
        go_cut [] (fun wx => Pair w wx (stir (x ^^^ wd l.data.toList, y)).1 (stir (x ^^^ wd l.data.toList, y)).2)
        case first =>
          go_region_with (first | (go_at_call 132; refine (word_any _ _ (by simp [maxLen]; omega)).mono ?_; rintro e w' ⟨rfl, rfl⟩) | (go_at_call 133; refine (stirred_any _ _ _).mono ?_; rintro e w' ⟨rfl, c1, c2, rfl⟩))
          all_goals
            go_wp2_with fail
            go_meet
            case rel =>
              repeat (first | exact HP.out.set _ _ | apply Pair.drew | apply Pair.alloc)
        case rest =>
          clear hc0 hc1 hf0 hf1 hz; have HP2 : Hid (Pair w wc (stir (x ^^^ wd l.data.toList, y)).1 (stir (x ^^^ wd l.data.toList, y)).2) := hcut; clear hcut HP
          by_cases h4 : 4 < l.size
          · go_wp2
            go_roundg (l.size - 4)
            case measure => omega
            case rel =>
              refine ⟨_, _, l.extract 4 l.size, by simp, by omega, rfl, ?_, HP2.out⟩
              rw [← HR.out, absorb_step l.data.toList _ (ne_nil l hlt)]; rw [ext_drop]
          · go_wp2
            go_roundg 0
            case measure => omega
            case rel =>
              refine ⟨_, _, ⟨#[]⟩, Nat.le_refl _, by omega, rfl, ?_, HP2.out⟩
              rw [← HR.out, absorb_step l.data.toList _ (ne_nil l hlt), List.drop_eq_nil_of_le (by rw [len_list]; omega)]
      · have hnil := is_nil l hlt
        have HR2 : Hid ((x, y) = absorb s.data.toList (wd key.data.toList, wd (key.data.toList.drop 4))) := by have := HR.out; rw [hnil, absorb_nil] at this; exact this
        clear HR hnil
        go_upto_region 10 with fail
        go_cut [] (fun wx => Pair w wx (stir (x, y ^^^ BitVec.ofNat 32 s.size)).1 (stir (x, y ^^^ BitVec.ofNat 32 s.size)).2)
        case first =>
          go_wp2_with (go_at_call 133; refine (stirred_any _ _ _).mono ?_; rintro e w' ⟨rfl, c1, c2, rfl⟩)
          go_meet
          case rel => repeat (first | exact HP.out.set _ _ | apply Pair.drew | apply Pair.alloc)
        case rest =>
          clear hc0 hc1 hf0 hf1 hz HP
          obtain ⟨x1, hx1⟩ : ∃ z, z = stir (x, y ^^^ BitVec.ofNat 32 s.size) := ⟨_, rfl⟩
          rw [← hx1] at hcut
          have HX1 : Hid (x1 = stir (x, y ^^^ BitVec.ofNat 32 s.size)) := hx1; clear hx1; have HP : Hid (Pair w wc x1.1 x1.2) := hcut; obtain ⟨hb, hz, hc0, hc1, hf0, hf1⟩ := hcut; clear hb
          go_upto_region 11 with fail
          go_cut [] (fun wx => Pair w wx (stir (x1.1, x1.2)).1 (stir (x1.1, x1.2)).2)
          case first =>
            go_wp2_with (go_at_call 133; refine (stirred_any _ _ _).mono ?_; rintro e w' ⟨rfl, c1, c2, rfl⟩)
            go_meet
            case rel => repeat (first | exact HP.out.set _ _ | apply Pair.drew | apply Pair.alloc)
          case rest =>
            clear hc0 hc1 hf0 hf1 hz HP; have hb := hcut.below; obtain ⟨_, hz, hc0, hc1, hf0, hf1⟩ := hcut; have b1 := u_bd (stir (x1.1, x1.2)).1; have b2 := u_bd (stir (x1.1, x1.2)).2
            obtain ⟨x2, hx2⟩ : ∃ z, z = stir (x1.1, x1.2) := ⟨_, rfl⟩
            rw [← hx2] at hc0 hc1 b1 b2
            have HB := hid hb; have HX2 : Hid (x2 = stir (x1.1, x1.2)) := hx2; obtain ⟨b1, b1'⟩ := b1; obtain ⟨b2, b2'⟩ := b2; clear hb hx2
            go_upto_region 12 with fail
            go_region_held3 (fun w' => w'.cell? ⟨w.heap.size, 0, none⟩ = some (.int .u32 (u x2.1)) ∧ w'.cell? ⟨w.heap.size, 1, none⟩ = some (.int .u32 (u x2.2))) (simp (maxDischargeDepth := 20) [hc0, hc1, World.cell?_alloc_some]) (first | (go_at_call 108; refine (four_any _ _).mono ?_; rintro e w' ⟨rfl, c1, c2, c3, c4, rfl⟩))
            go_wp2; go_ret
            refine ⟨?_, ?_⟩
            · show Ending.returned (Value.string _) = _
              rw [str_append]
              have e : mixed key.data.toList s.data.toList = four x2.1 ++ four x2.2 := by
                simp only [mixed, mixW, ← HR2.out, HX2.out, HX1.out]; rfl
              rw [e]
            · have hb := HB.out
              repeat (first | exact hb | apply Below.drew | (refine Below.alloc ?_ (by first | omega | (simp; omega)) _))
end Go.Proofs.YtabpkohcimiceabGreat
