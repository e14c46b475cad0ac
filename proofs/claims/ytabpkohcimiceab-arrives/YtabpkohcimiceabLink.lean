import Derived.Test.YtabpkohcimiceabPack
namespace Go.Proofs.Ytabpkohcimiceab
set_option maxRecDepth 100000
set_option maxHeartbeats 1000000
open Go.RowKit
set_option linter.unusedVariables false
theorem keyK_length (k : List UInt8) : (keyK k).length = 8 := mixed_length _ _
theorem link_any (c : ByteArray) (w : World) (hc : c.size = 8) :
    Calls Try.prog 56 #[.string c] w fun e w' => e = .returned (.tuple #[.string (str (keyK c.data.toList)), .string (str (nextK c.data.toList))]) ∧ Below w.heap.size w w' := by
  have c1 := fun w => keysMix_any c (⟨#[109]⟩ : ByteArray) w (by rw [hc]; unfold maxLen; omega) (by decide)
  have c2 := fun w => keysMix_any c (⟨#[110]⟩ : ByteArray) w (by rw [hc]; unfold maxLen; omega) (by decide)
  have tok1 : True := trivial
  go_enter Try.func56, Try.ntmps56
  go_wp2_with (first | (go_at_call 81; have _t := tok1; refine (c1 _).mono ?_; rintro e w2 ⟨rfl, hb1⟩; clear tok1) | (go_at_call 81; refine (c2 _).mono ?_; rintro e w3 ⟨rfl, hb2⟩))
  go_ret2; exact ⟨rfl, below_tr hb1 hb2⟩
theorem conv3d (w : World) (a b c : Int) :
    (convert 76 9 (.slice (some ⟨w.heap.size, 0, none⟩) 3 3)).run Try.prog ((w.alloc (.cells #[.int .u8 a, .int .u8 b, .int .u8 c] 5)).drew) =
      .ok (.string (str [UInt8.ofNat a.toNat, UInt8.ofNat b.toNat, UInt8.ofNat c.toNat])) ((w.alloc (.cells #[.int .u8 a, .int .u8 b, .int .u8 c] 5)).drew) := by
  rw [run_convert_bytes_string _ 76 9 5 _ _ _ Try.underlying76 Try.underlying5 Try.underlying9]
  rw [run_bytesToString (ns := [a, b, c])]
  · rfl
  · exact run_loadCells_list (P := Try.prog) _ _ [.int .u8 a, .int .u8 b, .int .u8 c] (by
      intro j v hj
      match j, hj with
      | 0, hj | 1, hj | 2, hj => simp at hj; subst hj; simp [Addr.add, go_sem])
theorem conv3t (w : World) (a b c : Int) (x : Array Value) :
    (convert 76 9 (.slice (some ⟨w.heap.size, 0, none⟩) 3 3)).run Try.prog (((w.alloc (.cells #[.int .u8 a, .int .u8 b, .int .u8 c] 5)).alloc (.cells x 5)).drew) =
      .ok (.string (str [UInt8.ofNat a.toNat, UInt8.ofNat b.toNat, UInt8.ofNat c.toNat])) (((w.alloc (.cells #[.int .u8 a, .int .u8 b, .int .u8 c] 5)).alloc (.cells x 5)).drew) := by
  rw [run_convert_bytes_string _ 76 9 5 _ _ _ Try.underlying76 Try.underlying5 Try.underlying9]
  rw [run_bytesToString (ns := [a, b, c])]
  · rfl
  · exact run_loadCells_list (P := Try.prog) _ _ [.int .u8 a, .int .u8 b, .int .u8 c] (by
      intro j v hj
      match j, hj with
      | 0, hj | 1, hj | 2, hj => simp at hj; subst hj; simp [Addr.add, go_sem, World.cell?_alloc_some])
theorem conv3u (w : World) (a b c : Int) (x : Array Value) :
    (convert 76 9 (.slice (some ⟨w.heap.size, 0, none⟩) 3 3)).run Try.prog (((w.alloc (.cells #[.int .u8 a, .int .u8 b, .int .u8 c] 5)).drew.alloc (.cells x 5))) =
      .ok (.string (str [UInt8.ofNat a.toNat, UInt8.ofNat b.toNat, UInt8.ofNat c.toNat])) (((w.alloc (.cells #[.int .u8 a, .int .u8 b, .int .u8 c] 5)).drew.alloc (.cells x 5))) := by
  rw [run_convert_bytes_string _ 76 9 5 _ _ _ Try.underlying76 Try.underlying5 Try.underlying9]
  rw [run_bytesToString (ns := [a, b, c])]
  · rfl
  · exact run_loadCells_list (P := Try.prog) _ _ [.int .u8 a, .int .u8 b, .int .u8 c] (by
      intro j v hj
      match j, hj with
      | 0, hj | 1, hj | 2, hj => simp at hj; subst hj; simp [Addr.add, go_sem, World.cell?_alloc_some])
theorem conv3v (w : World) (a b c : Int) (x : Array Value) :
    (convert 76 9 (.slice (some ⟨w.heap.size + 1, 0, none⟩) 3 3)).run Try.prog (((w.alloc (.cells x 5)).alloc (.cells #[.int .u8 a, .int .u8 b, .int .u8 c] 5)).drew) =
      .ok (.string (str [UInt8.ofNat a.toNat, UInt8.ofNat b.toNat, UInt8.ofNat c.toNat])) (((w.alloc (.cells x 5)).alloc (.cells #[.int .u8 a, .int .u8 b, .int .u8 c] 5)).drew) := by
  rw [run_convert_bytes_string _ 76 9 5 _ _ _ Try.underlying76 Try.underlying5 Try.underlying9]
  rw [run_bytesToString (ns := [a, b, c])]
  · rfl
  · exact run_loadCells_list (P := Try.prog) _ _ [.int .u8 a, .int .u8 b, .int .u8 c] (by
      intro j v hj
      match j, hj with
      | 0, hj | 1, hj | 2, hj => simp at hj; subst hj; simp [Addr.add, go_sem])
theorem str_three_size (a b c : UInt8) : (str [a, b, c]).size = 3 := rfl
def headB (step count prev pub : Nat) : List UInt8 := [UInt8.ofNat step, UInt8.ofNat count, UInt8.ofNat prev] ++ fourN pub
theorem headB_length (a b c d : Nat) : (headB a b c d).length = 7 := rfl
attribute [local go_sem] str_three_size str_fourN_size
theorem head_any (step count prev pub : Nat) (w : World) (h0 : step ≤ 255) (h1 : count ≤ 255) (h2 : prev ≤ 255) (h3 : pub < 4294967296) :
    Calls Try.prog 55 #[.int .i64 step, .int .i64 count, .int .i64 prev, .int .i64 pub] w fun e w' => e = .returned (.string (str (headB step count prev pub))) ∧ Below w.heap.size w w' := by
  have kd := conv3d; have kt := conv3t; have ku := conv3u; have kv := conv3v; have u1 := wrap_u8 step h0; have u2 := wrap_u8 count h1; have u3 := wrap_u8 prev h2; have hw1 := wrap_u32 pub h3
  have c0 := fun w => text_nat pub w h3
  go_enter Try.func55, Try.ntmps55
  go_upto_region 1 with fail
  go_region_with (first | (go_at_call 80; with_reducible refine (c0 _).mono ?_; rintro e w1 ⟨rfl, x1, rfl⟩))
  all_goals go_wp2
  all_goals go_ret
  all_goals refine ⟨?_, ?_⟩
  all_goals first
    | (rw [headB, ← str_append]; rfl)
    | (repeat (first | exact Below.refl _ _ | apply Below.drew | (refine Below.alloc ?_ (by first | exact Nat.le_refl _ | (simp; done) | (simp; omega)) _)))
theorem devPublic_any (x : Nat) (w : World) (hx : x < 2147483647) : Calls Try.prog 49 #[.int .i64 x] w fun e w' => e = .returned (.int .i64 (pwN 7 x : Int)) ∧ w' = w := by
  have c1 := fun w => power_int 7 (x : Int) w (by omega) (by omega) (by omega) (by omega)
  rw [show pw 7 (x : Int) = (pwN 7 x : Int) by rw [pw, Int.toNat_natCast]; rfl] at c1
  go_enter Try.func49, Try.ntmps49
  go_wp2_with (first | (go_at_call 71; refine (c1 _).mono ?_; rintro e w' ⟨rfl, hw⟩; rw [hw]; clear hw w'))
  go_ret; exact ⟨rfl, rfl⟩
end Go.Proofs.Ytabpkohcimiceab
