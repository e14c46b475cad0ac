import Derived.Test.YtabpkohcimiceaaSendD
import Derived.Test.YtabpkohcimiceaaSendR
import Derived.Test.YtabpkohcimiceaaLaw
import Derived.WalkKit
import Derived.WalkSpells
import Derived.WalkLawsBesides
namespace Go.Proofs.Ytabpkohcimiceaa
open Go.RowKit
set_option linter.unusedVariables false

/-- What holds of the plan of a letter that is written. -/
theorem send_safe (d t : List UInt8) (h : sendErr d t = 0) : ∃ k, isDiskL d = true ∧ d.length = k * 32 ∧ 1 ≤ k ∧ k ≤ 40 ∧
    sendTo d t = packL (sendS (heldS d)) (1 - liveL d) (k * 32) ∧
    sendPlan d t = encL (rplR d (sendTo d t) (heldS d).cap (liveL d)) ∧
    recsL (sendPlan d t) k = some (rplR d (sendTo d t) (heldS d).cap (liveL d)) ∧
    (∀ kq, leftL d (rplR d (sendTo d t) (heldS d).cap (liveL d)) (rplR d (sendTo d t) (heldS d).cap (liveL d)).length kq = sendTo d t) ∧
    ∀ m kq, m ≤ (rplR d (sendTo d t) (heldS d).cap (liveL d)).length → repairR (leftL d (rplR d (sendTo d t) (heldS d).cap (liveL d)) m kq) = (d, 0) ∨ repairR (leftL d (rplR d (sendTo d t) (heldS d).cap (liveL d)) m kq) = (sendTo d t, 0) := by
  obtain ⟨h0, ht, hs0, h50, h30⟩ := send_ok _ _ h
  obtain ⟨k, hg⟩ := open_good _ h0
  obtain ⟨gl, gk⟩ := good_lawQ hg
  obtain ⟨sl, sk⟩ := send_law gl gk hs0 h50
  have hkl := hg.kept
  have hcap := hg.cap
  have hok2 : StOk (sendS (heldS d)) := stOk_of sl sk (by show (heldS d).kept.length ≤ 255; omega)
  have hto : sendTo d t = packL (sendS (heldS d)) (1 - liveL d) (k * 32) := by rw [sendTo, if_pos h, hg.len]
  have hpl : sendPlan d t = encL (rplR d (sendTo d t) (heldS d).cap (liveL d)) := by rw [sendPlan, if_pos h, hto, hg.len]
  have hs := rpl_safe (s := heldS d) (s2 := sendS (heldS d)) (liveL d) k hg.ok hkl hcap hg.live hg.need hg.k2 hg.law hok2 hkl ((law_iff _).2 ⟨sl, hkl⟩) rfl
  rw [← hg.pack, ← hto] at hs
  obtain ⟨r1, r2, r3⟩ := hs
  exact ⟨k, hg.disk, hg.len, hg.k1, hg.k2, hto, hpl, by rw [hpl]; exact r1, r2, r3⟩
theorem encL_len (k : Nat) : ∀ l : List RecM, (∀ r ∈ l, r.ok k) → (encL l).length ≤ l.length * 33
  | [], _ => by simp [encL]
  | r :: l, h => by
    have ih := encL_len k l (fun x hx => h x (List.mem_cons_of_mem _ hx))
    have h1 : (encR r).length ≤ 33 := by
      rw [encR]
      rcases h r List.mem_cons_self with ⟨q, _⟩ | ⟨q, _, _, q2⟩
      · rw [if_pos q]; simp
      · rw [if_neg (by rw [q]; simp)]; simp [q2]
    rw [encL, List.length_append, List.length_cons]; omega

set_option maxRecDepth 100000 in
set_option maxHeartbeats 1000000 in
theorem sends_walk (a0 a1 : ByteArray) (a2 : Int) (a3 : ByteArray) (w0 : a0.size ≤ maxLen) (w1 : a1.size ≤ maxLen) (w2 : (Lit.int .i64 a2).wf = true) (w3 : a3.size ≤ maxLen) (w : World) :
    Calls Try.prog 12 #[.string a0, .string a1, .int .i64 a2, .string a3] w fun e w' => e = .returned (.bool true) ∧ Below w.heap.size w w' := by
  have w2' : -9223372036854775808 ≤ a2 ∧ a2 ≤ 9223372036854775807 := by
    simp [Lit.wf, IntKind.min, IntKind.max, IntKind.signed, IntKind.bits] at w2
    omega
  obtain ⟨n0, n1⟩ := w2'
  obtain ⟨e0, e1⟩ := sendErr_bd a0.data.toList a1.data.toList
  have c1 := fun w => pawlSend_any a0 a1 w w0
  have c2 := fun w => refSend_any a0 a1 w w0
  by_cases hok : sendErr a0.data.toList a1.data.toList = 0
  · obtain ⟨k, hD, hk, hk1, hk2, hto, hpl, r1, r2, r3⟩ := send_safe _ _ hok
    rw [len_list] at hk
    have hps : (str (sendPlan a0.data.toList a1.data.toList)).size ≤ maxLen := by
      obtain ⟨q1, q2⟩ := recsF_ok _ _ _ _ r1
      rw [str_size, hpl]
      have := encL_len k _ q2
      unfold maxLen; omega
    have c3 := fun w => safe_any a0 a0 (str (sendTo a0.data.toList a1.data.toList)) (str (sendPlan a0.data.toList a1.data.toList)) _ k a2 a3 w hD hk hk2 hps (by rw [str_toList]; exact r1) n0 n1 w3 (by rw [str_toList]; exact r2) (by rw [str_toList]; exact r3)
    rw [hok] at c1 c2
    generalize str (sendPlan a0.data.toList a1.data.toList) = pl at *
    generalize str (sendTo a0.data.toList a1.data.toList) = tt at *
    generalize str (sendLet a0.data.toList a1.data.toList) = lt at *
    clear r1 r2 r3 hok hto hpl hD hps e0 e1
    go_enter Try.func12, Try.ntmps12
    go_wp2_with (first | (go_at_call 46; (with_reducible refine (c1 _).mono ?_); rintro e x0 ⟨rfl, hb0⟩) | (go_at_call 47; (with_reducible refine (c2 _).mono ?_); rintro e x1 ⟨rfl, hb1⟩) | (go_at_call 37; (with_reducible refine (c3 _).mono ?_); rintro e x2 ⟨rfl, hb2⟩) | go_in)
    go_ret
    exact ⟨rfl, below_tr (below_tr hb0 hb1) hb2⟩
  · have p1 : sendPlan a0.data.toList a1.data.toList = [] := by rw [sendPlan, if_neg hok]
    rw [p1] at c1
    generalize str (sendTo a0.data.toList a1.data.toList) = tt at *
    generalize str (sendLet a0.data.toList a1.data.toList) = lt at *
    generalize sendErr a0.data.toList a1.data.toList = E at *
    have hokB : (E == 0) = false := by rw [beq_eq_false_iff_ne]; exact hok
    have c1' : ∀ w, Calls Try.prog 46 #[.string a0, .string a1] w fun e w' => e = .returned (.tuple #[.string lt, .string ⟨#[]⟩, .int .i64 E]) ∧ Below w.heap.size w w' := c1
    clear p1 c1
    go_enter Try.func12, Try.ntmps12
    go_wp2_with (first | (go_at_call 46; (with_reducible refine (c1' _).mono ?_); rintro e x0 ⟨rfl, hb0⟩) | (go_at_call 47; (with_reducible refine (c2 _).mono ?_); rintro e x1 ⟨rfl, hb1⟩) | go_in)
    go_ret
    exact ⟨rfl, below_tr hb0 hb1⟩
end Go.Proofs.Ytabpkohcimiceaa
