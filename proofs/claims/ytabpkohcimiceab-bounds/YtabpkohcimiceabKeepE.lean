import Derived.Test.YtabpkohcimiceabKeepM
import Derived.Test.YtabpkohcimiceabLaw
namespace Go.Proofs.Ytabpkohcimiceab
set_option maxRecDepth 100000
set_option maxHeartbeats 1000000
open Go.RowKit
set_option linter.unusedVariables false
theorem rec_of (x : ByteArray) (r : List UInt8) (k : Nat) (hk : x.size = k * 32) (hk1 : 1 ≤ k) (hk2 : k ≤ 40) (hr : repairR x.data.toList = (r, 0)) (w : World) :
    Calls Try.prog 70 #[.string x] w fun e w' => e = .returned (.tuple #[.string (str (encL (changesR x.data.toList r 0 k))), .int .i64 0]) ∧ Below w.heap.size w w' := by
  have h := pawlRecover_any x w (by unfold maxLen; omega)
  rw [recPlan, hr, if_pos rfl, len_list, hk, show k * 32 / 32 = k by omega, changesL_enc] at h
  exact h
theorem repair_len (x r : List UInt8) (k : Nat) (hx : x.length = k * 32) (hk1 : 1 ≤ k) (hk2 : k ≤ 40) (hr : repairR x = (r, 0)) : r.length = k * 32 := by
  obtain ⟨_, h2, _⟩ := rec_safe x r k hx hk1 hk2 hr
  by_cases h : (changesR x r 0 k) = []
  · have := h2 []
    rw [h] at this
    rw [← this]
    exact leftL_length x [] 0 k [] hx (fun r hr => by simp at hr) (Nat.le_refl _)
  · rw [repairR, if_pos (disk_of_len x k hx hk1 hk2)] at hr
    by_cases h0 : x.take 32 = List.replicate 32 0
    · rw [if_pos h0, hx] at hr
      have e : List.replicate (k * 32) (0 : UInt8) = r := congrArg Prod.fst hr; rw [← e, List.length_replicate]
    · rw [if_neg h0] at hr
      by_cases ho : heldOk x
      · rw [if_pos ho, hx] at hr
        obtain ⟨o1, o2, o3⟩ := heldS_ok x ho
        have hneed : 1 + 2 * halfN (heldS x).cap ≤ k := by rw [o3]; have := ho.1.2.2.2.2; omega
        have e : packL (heldS x) (liveL x) (k * 32) = r := congrArg Prod.fst hr; rw [← e]; exact packL_length _ _ k o1 o2 ho.1.2.2.1 hneed
      · rw [if_neg ho] at hr
        have := congrArg Prod.snd hr
        simp at this
theorem changes_rec_ok (x r : List UInt8) (k : Nat) (hr : r.length = k * 32) (hk2 : k ≤ 40) : (∀ q ∈ changesR x r 0 k, q.ok k) ∧ (changesR x r 0 k).length ≤ 100 := by
  obtain ⟨a, b⟩ := changesR_ok x r k 0 k hr hk2 (Nat.le_refl _) (by omega)
  exact ⟨a, by omega⟩
theorem recovered_any (x : ByteArray) (r : List UInt8) (k : Nat) (f0 f1 : Int) (k1 k2 : ByteArray) (w : World) (hk : x.size = k * 32) (hk1 : 1 ≤ k) (hk2 : k ≤ 40) (hr : repairR x.data.toList = (r, 0)) (b0 : -9223372036854775808 ≤ f1) (b1 : f1 ≤ 9223372036854775807) (hk2s : k2.size ≤ maxLen) :
    Calls Try.prog 45 #[.string x, .agg #[.int .i64 f0, .int .i64 f1, .string k1, .string k2]] w fun e w' => e = .returned (.tuple #[.string (str r), .bool true]) ∧ Below w.heap.size w w' := by
  have hxl : x.data.toList.length = k * 32 := by rw [len_list]; exact hk
  have hrl := repair_len _ _ k hxl hk1 hk2 hr; obtain ⟨r1, r2, r3⟩ := rec_safe x.data.toList r k hxl hk1 hk2 hr; obtain ⟨ok1, len1⟩ := changes_rec_ok x.data.toList r k hrl hk2
  have c1 := fun w => rec_of x r k hk hk1 hk2 hr w
  have c2 := fun w => counted_any x (changesR x.data.toList r 0 k) k w hk hk2 ok1 len1
  obtain ⟨p0, p1⟩ := pickN_bd f1 (((changesR x.data.toList r 0 k).length : Int) + 1) (by omega)
  have c3 := fun w => pick_any f1 (((changesR x.data.toList r 0 k).length : Int) + 1) w b0 b1 (by omega) (by omega)
  obtain ⟨m, hm⟩ := Int.eq_ofNat_of_zero_le p0
  rw [hm] at c3 p1
  have hmle : m ≤ (changesR x.data.toList r 0 k).length := by omega
  have c4 := fun w => played_any x (changesR x.data.toList r 0 k) m k k2 w hk hk2 ok1 len1 hmle hk2s
  have hfit := fit_of_ok ok1; have hx2 := leftL_length x.data.toList (changesR x.data.toList r 0 k) m k k2.data.toList hxl hfit hmle; have hr2 := r3 m k2.data.toList hmle
  obtain ⟨y, hy⟩ : ∃ y, y = str (leftL x.data.toList (changesR x.data.toList r 0 k) m k2.data.toList) := ⟨_, rfl⟩
  have hyl : y.data.toList = leftL x.data.toList (changesR x.data.toList r 0 k) m k2.data.toList := by rw [hy, str_toList]
  have hys : y.size = k * 32 := by rw [hy, str_size]; exact hx2
  rw [← hy] at c4
  rw [← hyl] at hr2
  have c5 := fun w => rec_of y r k hys hk1 hk2 hr2 w
  obtain ⟨ok2, len2⟩ := changes_rec_ok y.data.toList r k hrl hk2
  obtain ⟨_, s2, _⟩ := rec_safe y.data.toList r k (by rw [len_list]; exact hys) hk1 hk2 hr2
  have c6 := fun w => carried_any y (changesR y.data.toList r 0 k) k w hys hk2 ok2 len2
  rw [s2 []] at c6
  have c7 : ∀ w, Calls Try.prog 41 #[.string x, .string (str (encL (changesR x.data.toList r 0 k))), .int .i64 ((changesR x.data.toList r 0 k).length : Int), .string ⟨#[]⟩] w fun e w' => e = .returned (.string (str r)) ∧ Below w.heap.size w w' := fun w => by
    have := played_any x (changesR x.data.toList r 0 k) _ k ⟨#[]⟩ w hk hk2 ok1 len1 (Nat.le_refl _) (by decide)
    rw [show (⟨#[]⟩ : ByteArray).data.toList = [] from rfl, r2 []] at this
    exact this
  have hln : (changesR x.data.toList r 0 k).length ≤ 1000000 := by omega
  clear r1 r2 r3 s2 hx2 hyl hr2 hr hfit ok1 ok2 len1 len2 hrl hxl hy
  generalize (changesR x.data.toList r 0 k).length = ln at *
  generalize str (encL (changesR x.data.toList r 0 k)) = pl at *
  generalize str (encL (changesR y.data.toList r 0 k)) = p2 at *
  generalize str r = rr at *
  have hn0 : ¬ (ln : Int) < 0 := by omega
  have hw9 := wrap_i64k ((ln : Int) + 1) (by omega) (by omega)
  have tok1 : True := trivial; have tok2 : True := trivial
  go_enter Try.func45, Try.ntmps45
  go_upto_region 1 with fail
  obtain ⟨ob, eob⟩ : ∃ ob, ob = Obj.cells #[.int .i64 f0, .int .i64 f1, .string k1, .string k2] 32 := ⟨_, rfl⟩
  rw [← eob]; have hB := heap_alloc_new w ob; have hW : Below w.heap.size w (w.alloc ob) := (Below.refl _ _).alloc (Nat.le_refl _) _
  have hlt : w.heap.size < (w.alloc ob).heap.size := by simp
  generalize (w.alloc ob) = wb at hB hW hlt ⊢
  subst eob; have HB := hid hB; have HW := hid hW; clear hB hW
  go_upto_region 5 with (first | (go_at_call 70; have _t := tok1; (with_reducible refine (c1 _).mono ?_); rintro e w1 ⟨rfl, hb1⟩; clear tok1) | (go_at_call 40; (with_reducible refine (c2 _).mono ?_); rintro e w' ⟨rfl, hw⟩; rw [hw]; clear hw w'))
  have hB1 := (hb1.block w.heap.size hlt).trans HB.out; have HW1 : Hid (Below w.heap.size w w1) := below_tr HW.out hb1; have q1 : w1.cell? ⟨w.heap.size, 1, none⟩ = some (.int .i64 f1) := cell_of_row w1 _ 1 _ _ _ hB1; have q3 : w1.cell? ⟨w.heap.size, 3, none⟩ = some (.string k2) := cell_of_row w1 _ 3 _ _ _ hB1; have hlt1 : w.heap.size < w1.heap.size := Nat.lt_of_lt_of_le hlt hb1.size; clear hB1 hb1 HB HW hlt c1 c2
  go_cut [9] (fun x9 wx => x9 = .string y ∧ Below w1.heap.size w1 wx)
  case first =>
    go_region_held3 (fun w' => w'.cell? ⟨w.heap.size, 1, none⟩ = some (.int .i64 f1) ∧ w'.cell? ⟨w.heap.size, 3, none⟩ = some (.string k2)) (first | (simp [q1, q3]; done) | (simp [g1, g3]; done)) (first | (go_at_call 12; go_must (with_reducible refine (c3 _).mono ?_); rintro e w' ⟨rfl, hw⟩; rw [hw]; clear hw w') | (go_at_call 41; go_must (with_reducible refine (c4 _).mono ?_); rintro e w2 ⟨rfl, hb2⟩; have hb2' : Below w1.heap.size w1 w2 := ⟨hb2.os, hb2.tape, hb2.output, hb2.size, hb2.block⟩; have g1 := (hb2'.cell (p := ⟨w.heap.size, 1, none⟩) hlt1).trans q1; have g3 := (hb2'.cell (p := ⟨w.heap.size, 3, none⟩) hlt1).trans q3; clear hb2'))
    all_goals (go_wp2_with fail)
    all_goals go_meet
    all_goals exact ⟨rfl, ⟨hb2.os, hb2.tape, hb2.output, hb2.size, hb2.block⟩⟩
  case rest =>
    obtain ⟨rfl, hb2⟩ := hcut; have HW2 : Hid (Below w.heap.size w wc) := below_tr HW1.out hb2; clear hb2 q1 q3 HW1 c3 c4
    go_wp2_with (first | (go_at_call 70; (with_reducible refine (c5 _).mono ?_); rintro e w3 ⟨rfl, hb3⟩) | (go_at_call 25; (with_reducible refine (c6 _).mono ?_); rintro e w4 ⟨rfl, hb4⟩) | (go_at_call 41; (with_reducible refine (c7 _).mono ?_); rintro e w5 ⟨rfl, hb5⟩))
    go_ret2; exact ⟨rfl, below_tr (below_tr (below_tr HW2.out hb3) hb4) hb5⟩
theorem broken_any (d : ByteArray) (l : List RecM) (k : Nat) (f0 f1 : Int) (k1 k2 : ByteArray) (P : List UInt8 → Prop) (w : World) (hd : d.size = k * 32) (hk1 : 1 ≤ k) (hk2 : k ≤ 40) (hok : ∀ r ∈ l, r.ok k) (hl : l.length ≤ 100)
    (hrep : ∀ m kq, m ≤ l.length → ∃ r, repairR (leftL d.data.toList l m kq) = (r, 0) ∧ P r) (a0 : -9223372036854775808 ≤ f0) (a1 : f0 ≤ 9223372036854775807) (b0 : -9223372036854775808 ≤ f1) (b1 : f1 ≤ 9223372036854775807) (hk1s : k1.size ≤ maxLen) (hk2s : k2.size ≤ maxLen) :
    Calls Try.prog 29 #[.string d, .string (str (encL l)), .agg #[.int .i64 f0, .int .i64 f1, .string k1, .string k2]] w fun e w' => (∃ r, P r ∧ r.length = k * 32 ∧ e = .returned (.tuple #[.string (str r), .bool true])) ∧ Below w.heap.size w w' := by
  have hdl : d.data.toList.length = k * 32 := by rw [len_list]; exact hd
  have c2 := fun w => counted_any d l k w hd hk2 hok hl
  obtain ⟨p0, p1⟩ := pickN_bd f0 ((l.length : Int) + 1) (by omega)
  have c3 := fun w => pick_any f0 ((l.length : Int) + 1) w a0 a1 (by omega) (by omega)
  obtain ⟨m, hm⟩ := Int.eq_ofNat_of_zero_le p0
  rw [hm] at c3 p1
  have hmle : m ≤ l.length := by omega
  have c4 := fun w => played_any d l m k k1 w hd hk2 hok hl hmle hk1s
  obtain ⟨r, hr, hP⟩ := hrep m k1.data.toList hmle; have hx2 := leftL_length d.data.toList l m k k1.data.toList hdl (fit_of_ok hok) hmle
  obtain ⟨y, hy⟩ : ∃ y, y = str (leftL d.data.toList l m k1.data.toList) := ⟨_, rfl⟩
  have hyl : y.data.toList = leftL d.data.toList l m k1.data.toList := by rw [hy, str_toList]
  have hys : y.size = k * 32 := by rw [hy, str_size]; exact hx2
  rw [← hy] at c4
  rw [← hyl] at hr
  have hrl := repair_len _ _ k (by rw [len_list]; exact hys) hk1 hk2 hr
  have c5 := fun w => recovered_any y r k f0 f1 k1 k2 w hys hk1 hk2 hr b0 b1 hk2s
  have HR : Hid (P r ∧ r.length = k * 32) := ⟨hP, hrl⟩; clear hrep hx2 hyl hr hP hrl hy hok
  generalize l.length = ln at *
  generalize str (encL l) = pl at *
  obtain ⟨rr, hrr⟩ : ∃ rr, rr = str r := ⟨_, rfl⟩
  rw [← hrr] at c5
  have HRR : Hid (rr = str r) := hrr; clear hrr
  have hn0 : ¬ (ln : Int) < 0 := by omega
  have hw9 := wrap_i64k ((ln : Int) + 1) (by omega) (by omega)
  go_enter Try.func29, Try.ntmps29
  go_upto_region 1 with fail
  obtain ⟨ob, eob⟩ : ∃ ob, ob = Obj.cells #[.int .i64 f0, .int .i64 f1, .string k1, .string k2] 32 := ⟨_, rfl⟩
  rw [← eob]; have hB := heap_alloc_new w ob; have hW : Below w.heap.size w (w.alloc ob) := (Below.refl _ _).alloc (Nat.le_refl _) _
  have hlt : w.heap.size < (w.alloc ob).heap.size := by simp
  generalize (w.alloc ob) = wb at hB hW hlt ⊢
  subst eob; have HB := hid hB; have HW := hid hW; have q0 : wb.cell? ⟨w.heap.size, 0, none⟩ = some (.int .i64 f0) := cell_of_row wb _ 0 _ _ _ hB; have q2 : wb.cell? ⟨w.heap.size, 2, none⟩ = some (.string k1) := cell_of_row wb _ 2 _ _ _ hB; clear hB hW
  go_upto_region 4 with (first | (go_at_call 40; (with_reducible refine (c2 _).mono ?_); rintro e w' ⟨rfl, hw⟩; rw [hw]; clear hw w'))
  go_cut [9] (fun x9 wx => x9 = .string y ∧ Below wb.heap.size wb wx)
  case first =>
    go_region_held3 (fun w' => w'.cell? ⟨w.heap.size, 0, none⟩ = some (.int .i64 f0) ∧ w'.cell? ⟨w.heap.size, 2, none⟩ = some (.string k1)) (first | (simp [q0, q2]; done) | (simp [g0, g2]; done)) (first | (go_at_call 12; go_must (with_reducible refine (c3 _).mono ?_); rintro e w' ⟨rfl, hw⟩; rw [hw]; clear hw w') | (go_at_call 41; go_must (with_reducible refine (c4 _).mono ?_); rintro e w2 ⟨rfl, hb2⟩; have hb2' : Below wb.heap.size wb w2 := ⟨hb2.os, hb2.tape, hb2.output, hb2.size, hb2.block⟩; have g0 := (hb2'.cell (p := ⟨w.heap.size, 0, none⟩) hlt).trans q0; have g2 := (hb2'.cell (p := ⟨w.heap.size, 2, none⟩) hlt).trans q2; clear hb2'))
    all_goals (go_wp2_with fail)
    all_goals go_meet
    all_goals exact ⟨rfl, ⟨hb2.os, hb2.tape, hb2.output, hb2.size, hb2.block⟩⟩
  case rest =>
    obtain ⟨rfl, hb2⟩ := hcut; have hB2 := (hb2.block w.heap.size hlt).trans HB.out; have HW2 : Hid (Below w.heap.size w wc) := below_tr HW.out hb2; have z0 : wc.cell? ⟨w.heap.size, 0, none⟩ = some (.int .i64 f0) := cell_of_row wc _ 0 _ _ _ hB2; have z1 : wc.cell? ⟨w.heap.size, 1, none⟩ = some (.int .i64 f1) := cell_of_row wc _ 1 _ _ _ hB2; have z2 : wc.cell? ⟨w.heap.size, 2, none⟩ = some (.string k1) := cell_of_row wc _ 2 _ _ _ hB2; have z3 : wc.cell? ⟨w.heap.size, 3, none⟩ = some (.string k2) := cell_of_row wc _ 3 _ _ _ hB2; clear hb2 q0 q2 HW HB hB2 c3 c4
    go_wp2_with (first | (go_at_call 45; (with_reducible refine (c5 _).mono ?_); rintro e w3 ⟨rfl, hb3⟩))
    go_ret2
    exact ⟨⟨r, HR.out.1, HR.out.2, by rw [← HRR.out]; rfl⟩, below_tr HW2.out hb3⟩
end Go.Proofs.Ytabpkohcimiceab
