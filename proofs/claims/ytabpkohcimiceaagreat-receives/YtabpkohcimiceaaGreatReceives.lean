import Derived.Test.YtabpkohcimiceaaGreatRecvD
import Derived.Test.YtabpkohcimiceaaGreatRefR
import Derived.Test.YtabpkohcimiceaaGreatLaw
import Derived.WalkKit
import Derived.WalkSpells
import Derived.WalkLawsBesides
namespace Go.Proofs.YtabpkohcimiceaaGreat
open Go.RowKit
set_option linter.unusedVariables false
set_option linter.unusedSimpArgs false

/-- What holds of the plan of a letter that is taken. -/
theorem recv_safe (d t : List UInt8) (draw : Int) (h : recvErr d t draw = 0) : ∃ k, isDiskL d = true ∧ d.length = k * 32 ∧ 1 ≤ k ∧ k ≤ 40 ∧
    recvTo d t draw = packL (recvS d t draw) (1 - liveL d) (k * 32) ∧
    recvPlan d t draw = encL (rplR d (recvTo d t draw) (heldS d).cap (liveL d)) ∧
    recsL (recvPlan d t draw) k = some (rplR d (recvTo d t draw) (heldS d).cap (liveL d)) ∧
    (∀ kq, leftL d (rplR d (recvTo d t draw) (heldS d).cap (liveL d)) (rplR d (recvTo d t draw) (heldS d).cap (liveL d)).length kq = recvTo d t draw) ∧
    ∀ m kq, m ≤ (rplR d (recvTo d t draw) (heldS d).cap (liveL d)).length → repairR (leftL d (rplR d (recvTo d t draw) (heldS d).cap (liveL d)) m kq) = (d, 0) ∨ repairR (leftL d (rplR d (recvTo d t draw) (heldS d).cap (liveL d)) m kq) = (recvTo d t draw, 0) := by
  obtain ⟨h0, hs, hl, hr⟩ := recvErr_ok h
  obtain ⟨k, hg⟩ := open_good _ h0
  obtain ⟨gl, gk⟩ := good_lawQ hg
  have hkl := hg.kept
  have hcap := hg.cap
  obtain ⟨p1, p2, p3, p4, p5, p6, p7, p8⟩ := letOk_parts hl
  obtain ⟨xl, xk, xc, xn⟩ := recv_law gl gk (by omega) (letOf t) draw.toNat p1 p2 p3 p4 p5 (by rw [sec_nat hs]; exact hs) hr
  have e1 : recvS d t draw = (recvR (heldS d) (letOf t) draw.toNat).2.2 := by rw [recvS]
  rw [← e1] at xl xk xc xn
  have hok2 : StOk (recvS d t draw) := stOk_of xl xk (by omega)
  have hto : recvTo d t draw = packL (recvS d t draw) (1 - liveL d) (k * 32) := by rw [recvTo, if_pos h, hg.len]
  have hpl : recvPlan d t draw = encL (rplR d (recvTo d t draw) (heldS d).cap (liveL d)) := by rw [recvPlan, if_pos h, hto, hg.len]
  generalize recvS d t draw = s2 at *
  have hs := rpl_safe (s := heldS d) (s2 := s2) (liveL d) k hg.ok hkl hcap hg.live hg.need hg.k2 hg.law hok2 xn ((law_iff _).2 ⟨xl, xn⟩) xc
  rw [← hg.pack, ← hto] at hs
  obtain ⟨r1, r2, r3⟩ := hs
  exact ⟨k, hg.disk, hg.len, hg.k1, hg.k2, hto, hpl, by rw [hpl]; exact r1, r2, r3⟩
theorem encL_bd (k : Nat) : ∀ l : List RecM, (∀ r ∈ l, r.ok k) → (encL l).length ≤ l.length * 33
  | [], _ => by simp [encL]
  | r :: l, h => by
    have ih := encL_bd k l (fun x hx => h x (List.mem_cons_of_mem _ hx))
    have h1 : (encR r).length ≤ 33 := by
      rw [encR]
      rcases h r List.mem_cons_self with ⟨q, _⟩ | ⟨q, _, _, q2⟩
      · rw [if_pos q]; simp
      · rw [if_neg (by rw [q]; simp)]; simp [q2]
    rw [encL, List.length_append, List.length_cons]; omega

set_option maxRecDepth 100000 in
set_option maxHeartbeats 1000000 in
theorem receives_walk (a0 a1 : ByteArray) (a2 a3 : Int) (a4 : ByteArray) (w0 : a0.size ≤ maxLen) (w1 : a1.size ≤ maxLen) (w2 : (Lit.int .i64 a2).wf = true) (w3 : (Lit.int .i64 a3).wf = true) (w4 : a4.size ≤ maxLen) (w : World) :
    Calls Tryz.prog 3 #[.string a0, .string a1, .int .i64 a2, .int .i64 a3, .string a4] w fun e w' => e = .returned (.bool true) ∧ Below w.heap.size w w' := by
  have w3' : -9223372036854775808 ≤ a3 ∧ a3 ≤ 9223372036854775807 := by
    simp [Lit.wf, IntKind.min, IntKind.max, IntKind.signed, IntKind.bits] at w3
    omega
  obtain ⟨n0, n1⟩ := w3'
  obtain ⟨e0, e1⟩ := recvErr_bd a0.data.toList a1.data.toList a2
  have c1 := fun w => pawlReceive_any a0 a1 a2 w w0 w1
  have c2 := fun w => refReceive_any a0 a1 a2 w w0 w1
  by_cases hok : recvErr a0.data.toList a1.data.toList a2 = 0
  · obtain ⟨k, hD, hk, hk1, hk2, hto, hpl, r1, r2, r3⟩ := recv_safe _ _ _ hok
    rw [len_list] at hk
    have hps : (str (recvPlan a0.data.toList a1.data.toList a2)).size ≤ maxLen := by
      obtain ⟨q1, q2⟩ := recsF_ok _ _ _ _ r1
      rw [str_size, hpl]
      have := encL_bd k _ q2
      unfold maxLen; omega
    have c3 := fun w => safe_any a0 a0 (str (recvTo a0.data.toList a1.data.toList a2)) (str (recvPlan a0.data.toList a1.data.toList a2)) _ k a3 a4 w hD hk hk2 hps (by rw [str_toList]; exact r1) n0 n1 w4 (by rw [str_toList]; exact r2) (by rw [str_toList]; exact r3)
    rw [hok] at c1 c2
    generalize str (recvPlan a0.data.toList a1.data.toList a2) = pl at *
    generalize str (recvTo a0.data.toList a1.data.toList a2) = tt at *
    generalize str (recvTxt a0.data.toList a1.data.toList a2) = lt at *
    clear r1 r2 r3 hok hto hpl hD hps e0 e1
    go_enter Tryz.func3, Tryz.ntmps3
    go_wp2_with (first | (go_at_call 4; (with_reducible refine (c1 _).mono ?_); rintro e x0 ⟨rfl, hb0⟩) | (go_at_call 5; (with_reducible refine (c2 _).mono ?_); rintro e x1 ⟨rfl, hb1⟩) | (go_at_call 7; (with_reducible refine (c3 _).mono ?_); rintro e x2 ⟨rfl, hb2⟩) | go_in)
    go_ret
    exact ⟨rfl, below_tr (below_tr hb0 hb1) hb2⟩
  · have p1 : recvPlan a0.data.toList a1.data.toList a2 = [] := by rw [recvPlan, if_neg hok]
    rw [p1] at c1
    generalize str (recvTo a0.data.toList a1.data.toList a2) = tt at *
    generalize str (recvTxt a0.data.toList a1.data.toList a2) = lt at *
    generalize recvErr a0.data.toList a1.data.toList a2 = E at *
    have hokB : (E == 0) = false := by rw [beq_eq_false_iff_ne]; exact hok
    have c1' : ∀ w, Calls Tryz.prog 4 #[.string a0, .string a1, .int .i64 a2] w fun e w' => e = .returned (.tuple #[.string lt, .string ⟨#[]⟩, .int .i64 E]) ∧ Below w.heap.size w w' := c1
    clear p1 c1
    go_enter Tryz.func3, Tryz.ntmps3
    go_wp2_with (first | (go_at_call 4; (with_reducible refine (c1' _).mono ?_); rintro e x0 ⟨rfl, hb0⟩) | (go_at_call 5; (with_reducible refine (c2 _).mono ?_); rintro e x1 ⟨rfl, hb1⟩) | go_in)
    go_ret
    exact ⟨rfl, below_tr hb0 hb1⟩
end Go.Proofs.YtabpkohcimiceaaGreat
