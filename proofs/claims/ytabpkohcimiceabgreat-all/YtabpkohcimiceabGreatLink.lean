import Derived.Test.YtabpkohcimiceabGreatPack
namespace Go.Proofs.YtabpkohcimiceabGreat
set_option maxRecDepth 100000
set_option maxHeartbeats 1000000
open Go.RowKit
set_option linter.unusedVariables false
theorem keyK_length (k : List UInt8) : (keyK k).length = 8 := mixed_length _ _
theorem link_any (c : ByteArray) (w : World) (hc : c.size = 8) :
    Calls Tryz.prog 112 #[.string c] w fun e w' => e = .returned (.tuple #[.string (str (keyK c.data.toList)), .string (str (nextK c.data.toList))]) ∧ Below w.heap.size w w' := by
  have c1 := fun w => keysMix_any c (⟨#[109]⟩ : ByteArray) w (by rw [hc]; unfold maxLen; omega) (by decide)
  have c2 := fun w => keysMix_any c (⟨#[110]⟩ : ByteArray) w (by rw [hc]; unfold maxLen; omega) (by decide)
  have tok1 : True := trivial
  go_enter Tryz.func112, Tryz.ntmps112
  go_wp2_with (first | (go_at_call 83; have _t := tok1; refine (c1 _).mono ?_; rintro e w2 ⟨rfl, hb1⟩; clear tok1) | (go_at_call 83; refine (c2 _).mono ?_; rintro e w3 ⟨rfl, hb2⟩))
  go_ret2; exact ⟨rfl, below_tr hb1 hb2⟩
theorem conv3d (w : World) (a b c : Int) :
    (convert 80 9 (.slice (some ⟨w.heap.size, 0, none⟩) 3 3)).run Tryz.prog ((w.alloc (.cells #[.int .u8 a, .int .u8 b, .int .u8 c] 5)).drew) =
      .ok (.string (str [UInt8.ofNat a.toNat, UInt8.ofNat b.toNat, UInt8.ofNat c.toNat])) ((w.alloc (.cells #[.int .u8 a, .int .u8 b, .int .u8 c] 5)).drew) := by
  rw [run_convert_bytes_string _ 80 9 5 _ _ _ Tryz.underlying80 Tryz.underlying5 Tryz.underlying9]
  rw [run_bytesToString (ns := [a, b, c])]
  · rfl
  · exact run_loadCells_list (P := Tryz.prog) _ _ [.int .u8 a, .int .u8 b, .int .u8 c] (by
      intro j v hj
      match j, hj with
      | 0, hj | 1, hj | 2, hj => simp at hj; subst hj; simp [Addr.add, go_sem])
theorem conv3t (w : World) (a b c : Int) (x : Array Value) :
    (convert 80 9 (.slice (some ⟨w.heap.size, 0, none⟩) 3 3)).run Tryz.prog (((w.alloc (.cells #[.int .u8 a, .int .u8 b, .int .u8 c] 5)).alloc (.cells x 5)).drew) =
      .ok (.string (str [UInt8.ofNat a.toNat, UInt8.ofNat b.toNat, UInt8.ofNat c.toNat])) (((w.alloc (.cells #[.int .u8 a, .int .u8 b, .int .u8 c] 5)).alloc (.cells x 5)).drew) := by
  rw [run_convert_bytes_string _ 80 9 5 _ _ _ Tryz.underlying80 Tryz.underlying5 Tryz.underlying9]
  rw [run_bytesToString (ns := [a, b, c])]
  · rfl
  · exact run_loadCells_list (P := Tryz.prog) _ _ [.int .u8 a, .int .u8 b, .int .u8 c] (by
      intro j v hj
      match j, hj with
      | 0, hj | 1, hj | 2, hj => simp at hj; subst hj; simp [Addr.add, go_sem, World.cell?_alloc_some])
theorem conv3u (w : World) (a b c : Int) (x : Array Value) :
    (convert 80 9 (.slice (some ⟨w.heap.size, 0, none⟩) 3 3)).run Tryz.prog (((w.alloc (.cells #[.int .u8 a, .int .u8 b, .int .u8 c] 5)).drew.alloc (.cells x 5))) =
      .ok (.string (str [UInt8.ofNat a.toNat, UInt8.ofNat b.toNat, UInt8.ofNat c.toNat])) (((w.alloc (.cells #[.int .u8 a, .int .u8 b, .int .u8 c] 5)).drew.alloc (.cells x 5))) := by
  rw [run_convert_bytes_string _ 80 9 5 _ _ _ Tryz.underlying80 Tryz.underlying5 Tryz.underlying9]
  rw [run_bytesToString (ns := [a, b, c])]
  · rfl
  · exact run_loadCells_list (P := Tryz.prog) _ _ [.int .u8 a, .int .u8 b, .int .u8 c] (by
      intro j v hj
      match j, hj with
      | 0, hj | 1, hj | 2, hj => simp at hj; subst hj; simp [Addr.add, go_sem, World.cell?_alloc_some])
theorem conv3v (w : World) (a b c : Int) (x : Array Value) :
    (convert 80 9 (.slice (some ⟨w.heap.size + 1, 0, none⟩) 3 3)).run Tryz.prog (((w.alloc (.cells x 5)).alloc (.cells #[.int .u8 a, .int .u8 b, .int .u8 c] 5)).drew) =
      .ok (.string (str [UInt8.ofNat a.toNat, UInt8.ofNat b.toNat, UInt8.ofNat c.toNat])) (((w.alloc (.cells x 5)).alloc (.cells #[.int .u8 a, .int .u8 b, .int .u8 c] 5)).drew) := by
  rw [run_convert_bytes_string _ 80 9 5 _ _ _ Tryz.underlying80 Tryz.underlying5 Tryz.underlying9]
  rw [run_bytesToString (ns := [a, b, c])]
  · rfl
  · exact run_loadCells_list (P := Tryz.prog) _ _ [.int .u8 a, .int .u8 b, .int .u8 c] (by
      intro j v hj
      match j, hj with
      | 0, hj | 1, hj | 2, hj => simp at hj; subst hj; simp [Addr.add, go_sem])
theorem str_three_size (a b c : UInt8) : (str [a, b, c]).size = 3 := rfl
def headB (step count prev pub : Nat) : List UInt8 := [UInt8.ofNat step, UInt8.ofNat count, UInt8.ofNat prev] ++ fourN pub
theorem headB_length (a b c d : Nat) : (headB a b c d).length = 7 := rfl
attribute [local go_sem] str_three_size str_fourN_size
theorem head_any (step count prev pub : Nat) (w : World) (h0 : step ≤ 255) (h1 : count ≤ 255) (h2 : prev ≤ 255) (h3 : pub < 4294967296) :
    Calls Tryz.prog 111 #[.int .i64 step, .int .i64 count, .int .i64 prev, .int .i64 pub] w fun e w' => e = .returned (.string (str (headB step count prev pub))) ∧ Below w.heap.size w w' := by
  have kd := conv3d; have kt := conv3t; have ku := conv3u; have kv := conv3v; have u1 := wrap_u8 step h0; have u2 := wrap_u8 count h1; have u3 := wrap_u8 prev h2; have hw1 := wrap_u32 pub h3
  have c0 := fun w => text_nat pub w h3
  go_enter Tryz.func111, Tryz.ntmps111
  go_upto_region 1 with fail
  go_region_with (first | (go_at_call 131; with_reducible refine (c0 _).mono ?_; rintro e w1 ⟨rfl, x1, rfl⟩))
  all_goals go_wp2
  all_goals go_ret
  all_goals refine ⟨?_, ?_⟩
  all_goals first
    | (rw [headB, ← str_append]; rfl)
    | (repeat (first | exact Below.refl _ _ | apply Below.drew | (refine Below.alloc ?_ (by first | exact Nat.le_refl _ | (simp; done) | (simp; omega)) _)))
theorem devPublic_any (x : Nat) (w : World) (hx : x < 2147483647) : Calls Tryz.prog 73 #[.int .i64 x] w fun e w' => e = .returned (.int .i64 (pwN 7 x : Int)) ∧ w' = w := by
  have c1 := fun w => power_int 7 (x : Int) w (by omega) (by omega) (by omega) (by omega)
  rw [show pw 7 (x : Int) = (pwN 7 x : Int) by rw [pw, Int.toNat_natCast]; rfl] at c1
  go_enter Tryz.func73, Tryz.ntmps73
  go_wp2_with (first | (go_at_call 121; refine (c1 _).mono ?_; rintro e w' ⟨rfl, hw⟩; rw [hw]; clear hw w'))
  go_ret; exact ⟨rfl, rfl⟩
end Go.Proofs.YtabpkohcimiceabGreat
namespace Go.Proofs.YtabpkohcimiceabGreat
set_option maxRecDepth 100000
set_option maxHeartbeats 1000000
open Go.RowKit
set_option linter.unusedVariables false
theorem chain_nat (k : List UInt8) (n : Nat) (w : World) (hk : k.length = 8) (hn : n ≤ 1000) :
    Calls Tryz.prog 110 #[.string (str k), .int .i64 n] w fun e w' => e = .returned (.string (str (chainK k n))) ∧ Below w.heap.size w w' := by
  go_enter Tryz.func110, Tryz.ntmps110
  go_wp2
  go_loopg [0, 1] (n + 1) (fun gg a b wr => ∃ i : Nat, a = .string (str (chainK k i)) ∧ b = .int .i64 ((n - i : Nat) : Int) ∧ i ≤ n ∧ gg + i = n + 1 ∧ Below w.heap.size w wr)
  case atStart => exact ⟨0, rfl, rfl, by omega, by omega, Below.refl _ _⟩
  case round =>
    obtain ⟨i, rfl, rfl, hi, hg, hb⟩ := hrel; have HB := hid hb; clear hb
    have c1 := fun w => mixed_any (str (chainK k i)) (⟨#[110]⟩ : ByteArray) w (by rw [str_size]; exact chainK_length k hk i) (by decide)
    rw [str_toList] at c1
    by_cases hlt : i < n
    · have hp : (0 : Int) < ((n - i : Nat) : Int) := by omega
      go_wp2_with (first | (go_at_call 84; refine (c1 _).mono ?_; rintro e w2 ⟨rfl, hb2⟩))
      go_roundg (gk - 1)
      case measure => omega
      case rel => exact ⟨i + 1, rfl, congrArg (Value.int .i64) (by omega), by omega, by omega, below_tr HB.out hb2⟩
    · obtain rfl : i = n := by omega
      have hp : ¬ (0 : Int) < ((i - i : Nat) : Int) := by omega
      go_wp2; go_ret; exact ⟨rfl, HB.out⟩
theorem chain_any (k : List UInt8) (n : Int) (w : World) (hk : k.length = 8) (h0 : 0 ≤ n) (hn : n ≤ 1000) :
    Calls Tryz.prog 110 #[.string (str k), .int .i64 n] w fun e w' => e = .returned (.string (str (chainK k n.toNat))) ∧ Below w.heap.size w w' := by
  obtain ⟨m, rfl⟩ := Int.eq_ofNat_of_zero_le h0
  exact chain_nat k m w hk (by omega)
theorem keyOf_any (k : List UInt8) (n : Int) (w : World) (hk : k.length = 8) (h0 : 0 ≤ n) (hn : n ≤ 1000) :
    Calls Tryz.prog 109 #[.string (str k), .int .i64 n] w fun e w' => e = .returned (.string (str (keyK (chainK k n.toNat)))) ∧ Below w.heap.size w w' := by
  have c1 := fun w => chain_any k n w hk h0 hn
  have c2 := fun w => mixed_any (str (chainK k n.toNat)) (⟨#[109]⟩ : ByteArray) w (by rw [str_size]; exact chainK_length k hk _) (by decide)
  rw [str_toList] at c2
  go_enter Tryz.func109, Tryz.ntmps109
  go_wp2_with (first | (go_at_call 110; with_reducible refine (c1 _).mono ?_; rintro e w2 ⟨rfl, hb2⟩) | (go_at_call 84; with_reducible refine (c2 _).mono ?_; rintro e w3 ⟨rfl, hb3⟩))
  go_ret; exact ⟨rfl, below_tr hb2 hb3⟩
end Go.Proofs.YtabpkohcimiceabGreat
