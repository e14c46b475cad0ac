import Derived.Test.YtabpkohcimiceabRecvP
import Derived.Test.YtabpkohcimiceabSendX
import Derived.Test.YtabpkohcimiceabAgree
import Derived.Test.YtabpkohcimiceabGrund
import Derived.Test.YtabpkohcimiceabKeptC
import Derived.OwnWalk
import Derived.Deep.AppendLies
namespace Go.Proofs.Ytabpkohcimiceab
open Go.RowKit
set_option linter.unusedVariables false

/-! ### Two boxes that fit together: both have the same chains, though they made them apart. Plain. -/
theorem sh_comm (x y : Nat) : pwN (pwN 7 x) y = pwN (pwN 7 y) x := by rw [pwN_pow, pwN_pow, Nat.mul_comm]
/-- The root behind step n; a: the secret number of each step's writer. -/
def rootN (r : List UInt8) (a : Nat → Nat) : Nat → List UInt8
  | 0 => r
  | n + 1 => rootL (rootN r a n) (pwN (pwN 7 (a n)) (a (n + 1)))
/-- The chain of step n. -/
def chN (r : List UInt8) (a : Nat → Nat) (n : Nat) : List UInt8 := chainL (rootN r a (n - 1)) (pwN (pwN 7 (a (n - 1))) (a n))
theorem rootN_congr (r : List UInt8) (a b : Nat → Nat) : ∀ n, (∀ i, i ≤ n → a i = b i) → rootN r a n = rootN r b n
  | 0, _ => rfl
  | n + 1, h => by rw [rootN, rootN, rootN_congr r a b n (fun i hi => h i (by omega)), h n (by omega), h (n + 1) (Nat.le_refl _)]
theorem chN_congr (r : List UInt8) (a b : Nat → Nat) (n : Nat) (h : ∀ i, i ≤ n → a i = b i) : chN r a n = chN r b n := by
  rw [chN, chN, rootN_congr r a b (n - 1) (fun i hi => h i (by omega)), h (n - 1) (by omega), h n (Nat.le_refl _)]
theorem chainK_add (k : List UInt8) (n : Nat) : ∀ m, chainK (chainK k n) m = chainK k (n + m)
  | 0 => rfl
  | m + 1 => by rw [chainK, chainK_add k n m]; rfl
/-- What a box has, by the secret numbers. -/
structure BoxI (r : List UInt8) (a : Nat → Nat) (s : StM) : Prop where
  sec : s.secret = a s.step
  peer : 1 ≤ s.step → s.peer = pwN 7 (a (s.step - 1))
  root : s.root = rootN r a s.step
  out : 1 ≤ s.step → s.out = chainK (chN r a s.step) s.sent
  inn : 2 ≤ s.step → s.inn = chainK (chN r a (s.step - 1)) s.got
  kept : ∀ e ∈ s.kept, e.key = keyK (chainK (chN r a e.step) e.count)
theorem BoxI.send {r : List UInt8} {a : Nat → Nat} {s : StM} (h : BoxI r a s) : BoxI r a (sendS s) :=
  ⟨h.sec, h.peer, h.root, fun q => by
    show nextK s.out = chainK (chN r a s.step) (s.sent + 1)
    rw [h.out q]; rfl, h.inn, h.kept⟩
theorem BoxI.cap {r : List UInt8} {a : Nat → Nat} {s : StM} (h : BoxI r a s) : BoxI r a (capS s) :=
  ⟨h.sec, h.peer, h.root, h.out, h.inn, fun e he => h.kept e (List.mem_of_mem_drop he)⟩
theorem BoxI.congr {r : List UInt8} {a b : Nat → Nat} {s : StM} (h : BoxI r a s) (hab : ∀ i, i ≤ s.step → a i = b i) (hk : ∀ e ∈ s.kept, e.step ≤ s.step) : BoxI r b s :=
  ⟨by rw [h.sec]; exact hab _ (Nat.le_refl _), fun q => by rw [h.peer q, hab _ (by omega)], by rw [h.root]; exact rootN_congr r a b _ hab, fun q => by rw [h.out q, chN_congr r a b _ hab], fun q => by rw [h.inn q, chN_congr r a b _ (fun i hi => hab i (by omega))], fun e he => by rw [h.kept e he, chN_congr r a b _ (fun i hi => hab i (by have := hk e he; omega))]⟩
theorem spanL_key (k : List UInt8) (step due : Nat) : ∀ n e, e ∈ spanL k step due n → e.step = step ∧ due ≤ e.count ∧ e.key = keyK (chainK k (e.count - due))
  | 0, e, h => by simp [spanL] at h
  | n + 1, e, h => by
    rw [spanL] at h
    rcases List.mem_append.1 h with h | h
    · exact spanL_key k step due n e h
    · rw [List.mem_singleton.1 h]
      refine ⟨rfl, Nat.le_add_right _ _, ?_⟩
      show keyK (chainK k n) = keyK (chainK k (due + n - due))
      rw [Nat.add_sub_cancel_left]
theorem BoxI.pass {r : List UInt8} {a : Nat → Nat} {s : StM} (h : BoxI r a s) (h2 : 2 ≤ s.step) (count : Nat) : BoxI r a (passS s count) := by
  refine ⟨h.sec, h.peer, h.root, h.out, fun q => ?_, fun e he => ?_⟩
  · show chainK s.inn (count - s.got) = chainK (chN r a (s.step - 1)) (s.got + (count - s.got))
    rw [h.inn h2, chainK_add]
  · rcases List.mem_append.1 he with he | he
    · exact h.kept e he
    · obtain ⟨e1, e2, e3⟩ := spanL_key _ _ _ _ e he
      rw [e3, e1, h.inn h2, chainK_add, show s.got + (e.count - s.got) = e.count by omega]
theorem BoxI.due {r : List UInt8} {a : Nat → Nat} {s : StM} (h : BoxI r a s) (h2 : 2 ≤ s.step) (count : Nat) (hc : s.got ≤ count) : BoxI r a (dueS s count) ∧ dueKey s count = keyK (chainK (chN r a (s.step - 1)) count) := by
  have hp := h.pass h2 count
  have e : (passS s count).inn = chainK (chN r a (s.step - 1)) count := by
    have := hp.inn h2
    show (passS s count).inn = _
    rw [this]
    show chainK (chN r a (s.step - 1)) (s.got + (count - s.got)) = _
    rw [show s.got + (count - s.got) = count by omega]
  refine ⟨⟨hp.sec, hp.peer, hp.root, hp.out, fun q => ?_, hp.kept⟩, by rw [dueKey, e]⟩
  show nextK (passS s count).inn = chainK (chN r a (s.step - 1)) (count + 1)
  rw [e]; rfl
theorem BoxI.ends {r : List UInt8} {a : Nat → Nat} {s : StM} (h : BoxI r a s) (prev : Nat) : BoxI r a (endS s prev) := by
  rw [endS]
  by_cases h2 : 2 ≤ s.step
  · rw [if_pos h2]; exact h.pass h2 prev
  · rw [if_neg h2]; exact h
/-- The secret numbers, with that of one more step. -/
def updN (a : Nat → Nat) (n x : Nat) : Nat → Nat := fun i => if i = n then x else a i
theorem updN_at (a : Nat → Nat) (n x : Nat) : updN a n x n = x := if_pos rfl
theorem updN_ne (a : Nat → Nat) (n x i : Nat) (h : i ≠ n) : updN a n x i = a i := if_neg h
theorem BoxI.turn {r : List UInt8} {a : Nat → Nat} {s : StM} (h : BoxI r a s) (hk : ∀ e ∈ s.kept, e.step < s.step) (step pub draw : Nat) (h1 : step = s.step + 1) (hp : pub = pwN 7 (a step)) : BoxI r (updN a (step + 1) draw) (turnS s step pub draw) := by
  have hab : ∀ i, i ≤ step → a i = updN a (step + 1) draw i := fun i hi => (updN_ne a _ _ i (by omega)).symm
  have hr : rootL s.root (pwN pub s.secret) = rootN r (updN a (step + 1) draw) step := by
    rw [h.root, hp, h.sec, sh_comm, ← rootN_congr r a _ step hab, h1]
    rfl
  refine ⟨(updN_at _ _ _).symm, fun _ => ?_, ?_, fun _ => ?_, fun _ => ?_, fun e he => ?_⟩
  · show pub = pwN 7 (updN a (step + 1) draw (step + 1 - 1))
    rw [hp, Nat.add_sub_cancel, ← hab step (Nat.le_refl _)]
  · show rootL (rootL s.root (pwN pub s.secret)) (pwN pub draw) = rootN r (updN a (step + 1) draw) (step + 1)
    rw [hr, rootN, updN_at, ← hab step (Nat.le_refl _), hp]
  · show chainL (rootL s.root (pwN pub s.secret)) (pwN pub draw) = chainK (chN r (updN a (step + 1) draw) (step + 1)) 0
    rw [hr, hp, chainK, chN, Nat.add_sub_cancel, updN_at, ← hab step (Nat.le_refl _)]
  · show chainL s.root (pwN pub s.secret) = chainK (chN r (updN a (step + 1) draw) (step + 1 - 1)) 0
    rw [Nat.add_sub_cancel, chainK, ← chN_congr r a _ step hab, chN, h.root, h.sec, hp, sh_comm, show step - 1 = s.step by omega]
  · have := hk e he
    rw [h.kept e he, chN_congr r a _ e.step (fun i hi => hab i (by omega))]
/-- What a letter gives: its key is that of its step and count, and the box behind it fits again. -/
theorem take_fits {r : List UInt8} {a : Nat → Nat} {s : StM} (h : BoxI r a s) (hq : LawQ s) (l : LetM) (draw : Nat) (hp : l.step = s.step + 1 → l.pub = pwN 7 (a l.step)) (hok : (keyR s l draw).1 = 0) (h1 : 1 ≤ l.step) :
    (keyR s l draw).2.1 = keyK (chainK (chN r a l.step) l.count) ∧ BoxI r (if l.step = s.step + 1 then updN a (l.step + 1) draw else a) (keyR s l draw).2.2 := by
  rw [keyR] at hok ⊢
  by_cases hx : s.step + 1 < l.step ∨ l.step % 2 = s.step % 2
  · rw [if_pos hx] at hok; simp at hok
  · rw [if_neg hx] at hok ⊢
    by_cases hl : l.step = s.step + 1
    · rw [if_pos hl] at hok ⊢
      rw [if_pos hl]
      rw [turnR] at hok ⊢
      by_cases h2 : 2 ≤ s.step ∧ skipBad s l.prev
      · rw [if_pos h2] at hok; simp at hok
      · rw [if_neg h2] at hok ⊢
        rw [dueR] at hok ⊢
        have hes := (endS_step s l.prev).1
        have hke : ∀ e ∈ (endS s l.prev).kept, e.step < (endS s l.prev).step := by
          intro e he
          rw [hes]
          rw [endS] at he
          by_cases q2 : 2 ≤ s.step
          · rw [if_pos q2] at he
            rcases List.mem_append.1 he with he | he
            · exact (hq.keys.lo e he).2.1
            · have := (spanL_key _ _ _ _ e he).1; omega
          · rw [if_neg q2] at he
            exact (hq.keys.lo e he).2.1
        have ht := (h.ends l.prev).turn hke l.step l.pub draw (by rw [hes]; exact hl) (hp hl)
        by_cases h3 : skipBad (turnS (endS s l.prev) l.step l.pub draw) l.count
        · rw [if_pos h3] at hok; simp at hok
        · rw [if_neg h3]
          obtain ⟨d1, d2⟩ := ht.due (by show 2 ≤ l.step + 1; omega) l.count (Nat.zero_le _)
          refine ⟨?_, d1⟩
          show dueKey _ _ = _
          rw [d2]
          show keyK (chainK (chN r (updN a (l.step + 1) draw) (l.step + 1 - 1)) l.count) = _
          rw [Nat.add_sub_cancel, ← chN_congr r a _ l.step (fun i hi => (updN_ne a _ _ i (by omega)).symm)]
    · rw [if_neg hl] at hok ⊢
      rw [if_neg hl]
      by_cases h2 : l.step + 1 = s.step ∧ s.got ≤ l.count
      · rw [if_pos h2] at hok ⊢
        rw [dueR] at hok ⊢
        by_cases h3 : skipBad s l.count
        · rw [if_pos h3] at hok; simp at hok
        · rw [if_neg h3]
          obtain ⟨d1, d2⟩ := h.due (by omega) l.count h2.2
          refine ⟨?_, d1⟩
          show dueKey _ _ = _
          rw [d2, show s.step - 1 = l.step by omega]
      · rw [if_neg h2] at hok ⊢
        rw [oldR] at hok ⊢
        cases hf : s.kept.find? (isEnt l.step l.count) with
        | none => rw [hf] at hok; simp at hok
        | some e =>
          have hm := List.mem_of_find?_eq_some hf
          have he := (isEnt_iff _ _ _).1 (List.find?_some hf)
          refine ⟨?_, ⟨h.sec, h.peer, h.root, h.out, h.inn, fun x hx => h.kept x (List.mem_filter.1 hx).1⟩⟩
          show e.key = _
          rw [h.kept e hm, he.1, he.2]

/-! ### A letter's bytes -/
def letB (r : List UInt8) (a : Nat → Nat) (n c p : Nat) (t : List UInt8) : List UInt8 := headB n c p (pwN 7 (a n)) ++ sealL (keyK (chainK (chN r a n) c)) (headB n c p (pwN 7 (a n))) t
theorem letL_eq {r : List UInt8} {a : Nat → Nat} {s : StM} (h : BoxI r a s) (h1 : 1 ≤ s.step) (t : List UInt8) : letL s t = letB r a s.step s.sent s.prev t := by
  rw [letL, letB, h.sec, h.out h1]
theorem letB_congr (r : List UInt8) (a b : Nat → Nat) (n c p : Nat) (t : List UInt8) (h : ∀ i, i ≤ n → a i = b i) : letB r a n c p t = letB r b n c p t := by
  rw [letB, letB, chN_congr r a b n h, h n (Nat.le_refl _)]
theorem letB_length (r : List UInt8) (a : Nat → Nat) (n c p : Nat) (t : List UInt8) : (letB r a n c p t).length = 15 + t.length := by
  rw [letB, List.length_append, headB_length, sealL_length]; omega
/-- The parts of bytes that begin with a head. -/
theorem letOf_head (n c p pub : Nat) (y : List UInt8) (hn : n ≤ 255) (hc : c ≤ 255) (hp : p ≤ 255) (hpub : pub < 4294967296) : letOf (headB n c p pub ++ y) = { step := n, count := c, prev := p, pub := pub, head := headB n c p pub, body := y } := by
  have e0 : ((headB n c p pub ++ y).getD 0 0).toNat = n := ofNat_toNat n hn
  have e1 : ((headB n c p pub ++ y).getD 1 0).toNat = c := ofNat_toNat c hc
  have e2 : ((headB n c p pub ++ y).getD 2 0).toNat = p := ofNat_toNat p hp
  have e3 : (headB n c p pub ++ y).drop 3 = fourN pub ++ y := rfl
  rw [letOf, e0, e1, e2, e3, wn_fourN pub hpub, drop_app _ _ 7 (headB_length _ _ _ _), take_app _ _ 7 (headB_length _ _ _ _)]
theorem pub_of (x : Nat) : Pub ((pwN 7 x : Nat) : Int) := by
  have h1 := pwN7_pos x
  have h2 := pwN_lt 7 x
  unfold Pub; omega
theorem letOk_head (n c p x : Nat) (y : List UInt8) (h1 : 1 ≤ n) (hn : n ≤ 29) (hc : c ≤ 49) (hp : p ≤ 50) (hy : 8 ≤ y.length) (hy2 : y.length ≤ 48) : letOk (headB n c p (pwN 7 x) ++ y) := by
  have hx := pwN_lt 7 x
  have e := letOf_head n c p (pwN 7 x) y (by omega) (by omega) (by omega) (by omega)
  refine ⟨by rw [List.length_append, headB_length]; omega, ?_⟩
  rw [e]
  exact ⟨h1, hn, hc, hp, pub_of x⟩

/-! ### What becomes of a disk -/
theorem good_pack {s : StM} (lv k : Nat) (h : LawQ s) (hk : Keyed s) (hc : s.kept.length ≤ s.cap) (hl : lv ≤ 1) (hn : 1 + 2 * halfN s.cap ≤ k) (hk2 : k ≤ 40) : GoodD (packL s lv (k * 32)) k ∧ heldS (packL s lv (k * 32)) = s ∧ liveL (packL s lv (k * 32)) = lv := by
  have hcap := h.cap
  have hok : StOk s := stOk_of h hk (by omega)
  have hlaw : lawfulL s = true := (law_iff s).2 ⟨h, hc⟩
  obtain ⟨g1, g2, g3⟩ := pack_held lv k hok hc hcap hl hn hlaw
  have hlen := packL_length s lv k hok hc hl hn
  refine ⟨⟨disk_of_len _ k hlen (by omega) hk2, hlen, by omega, hk2, g1, by rw [g2, g3], by rw [g2]; exact hok, by rw [g2]; exact hc, by rw [g2]; exact hcap, by rw [g3]; exact hl, by rw [g2]; exact hn, by rw [g2]; exact hlaw⟩, g2, g3⟩
theorem good_open {d : List UInt8} {k : Nat} (h : GoodD d k) : openErr d = 0 := by
  have hr := repair_pack (s := heldS d) (liveL d) k h.ok h.kept h.cap h.live h.need h.k2 h.law
  rw [← h.pack] at hr
  rw [open_eq, openR, hr, if_pos rfl, if_pos rfl, if_neg]
  intro e
  obtain ⟨p1, _⟩ := pack_parts (s := heldS d) (liveL d) k h.ok h.kept h.cap h.live h.need
  rw [← h.pack] at p1
  apply top_not (heldS d).cap (liveL d)
  rw [← p1]
  have h1 := h.len
  have h2 := h.k1
  exact zero_take d (by omega) e
theorem send_good {d : List UInt8} {k : Nat} (h : GoodD d k) (t : List UInt8) (he : sendErr d t = 0) : GoodD (sendTo d t) k ∧ heldS (sendTo d t) = sendS (heldS d) := by
  obtain ⟨_, _, h0, h50, _⟩ := send_ok _ _ he
  obtain ⟨gl, gk⟩ := good_lawQ h
  obtain ⟨sl, sk⟩ := send_law gl gk h0 h50
  have hlv := h.live
  obtain ⟨g1, g2, _⟩ := good_pack (s := sendS (heldS d)) (1 - liveL d) k sl sk h.kept (by omega) h.need h.k2
  have hto : sendTo d t = packL (sendS (heldS d)) (1 - liveL d) (k * 32) := by rw [sendTo, if_pos he, h.len]
  rw [hto]
  exact ⟨g1, g2⟩
theorem send_err {d : List UInt8} {k : Nat} (h : GoodD d k) (t : List UInt8) (ht : t.length ≤ 40) (h0 : (heldS d).step ≠ 0) (h50 : (heldS d).sent < 50) (h30 : (heldS d).step < 30) : sendErr d t = 0 := by
  rw [sendErr, if_pos (good_open h), if_neg (by omega), if_neg h0, if_neg (by omega)]
theorem recv_good {d : List UInt8} {k : Nat} (h : GoodD d k) (t : List UInt8) (draw : Int) (he : recvErr d t draw = 0) : GoodD (recvTo d t draw) k ∧ heldS (recvTo d t draw) = recvS d t draw := by
  obtain ⟨h0, hs, hl, hr⟩ := recvErr_ok he
  obtain ⟨gl, gk⟩ := good_lawQ h
  have hkl := h.kept
  have hcap := h.cap
  obtain ⟨p1, p2, p3, p4, p5, p6, p7, p8⟩ := letOk_parts hl
  obtain ⟨xl, xk, xc, xn⟩ := recv_law gl gk (by omega) (letOf t) draw.toNat p1 p2 p3 p4 p5 (by rw [sec_nat hs]; exact hs) hr
  have e1 : recvS d t draw = (recvR (heldS d) (letOf t) draw.toNat).2.2 := by rw [recvS]
  rw [← e1] at xl xk xc xn
  have hto : recvTo d t draw = packL (recvS d t draw) (1 - liveL d) (k * 32) := by rw [recvTo, if_pos he, h.len]
  have hlv := h.live
  have hneed := h.need
  obtain ⟨g1, g2, _⟩ := good_pack (s := recvS d t draw) (1 - liveL d) k xl xk xn (by omega) (by rw [xc]; exact hneed) h.k2
  rw [hto]
  exact ⟨g1, g2⟩
/-- A letter that is sealed by the key that the box tells gives its text. -/
theorem recv_opens {d : List UInt8} {k : Nat} (h : GoodD d k) (n c p x : Nat) (key txt : List UInt8) (draw : Int) (hs : Sec draw) (h1 : 1 ≤ n) (hn : n ≤ 29) (hc : c ≤ 49) (hp : p ≤ 50) (ht : txt.length ≤ 40)
    (hk0 : (keyR (heldS d) { step := n, count := c, prev := p, pub := pwN 7 x, head := headB n c p (pwN 7 x), body := sealL key (headB n c p (pwN 7 x)) txt } draw.toNat).1 = 0)
    (hk1 : (keyR (heldS d) { step := n, count := c, prev := p, pub := pwN 7 x, head := headB n c p (pwN 7 x), body := sealL key (headB n c p (pwN 7 x)) txt } draw.toNat).2.1 = key) :
    recvErr d (headB n c p (pwN 7 x) ++ sealL key (headB n c p (pwN 7 x)) txt) draw = 0 ∧ recvTxt d (headB n c p (pwN 7 x) ++ sealL key (headB n c p (pwN 7 x)) txt) draw = txt ∧
    recvS d (headB n c p (pwN 7 x) ++ sealL key (headB n c p (pwN 7 x)) txt) draw = capS (keyR (heldS d) { step := n, count := c, prev := p, pub := pwN 7 x, head := headB n c p (pwN 7 x), body := sealL key (headB n c p (pwN 7 x)) txt } draw.toNat).2.2 := by
  have hx := pwN_lt 7 x
  have hl := letOk_head n c p x (sealL key (headB n c p (pwN 7 x)) txt) h1 hn hc hp (by rw [sealL_length]; omega) (by rw [sealL_length]; omega)
  have e := letOf_head n c p (pwN 7 x) (sealL key (headB n c p (pwN 7 x)) txt) (by omega) (by omega) (by omega) (by omega)
  have er : recvR (heldS d) (letOf (headB n c p (pwN 7 x) ++ sealL key (headB n c p (pwN 7 x)) txt)) draw.toNat = (0, txt, capS (keyR (heldS d) { step := n, count := c, prev := p, pub := pwN 7 x, head := headB n c p (pwN 7 x), body := sealL key (headB n c p (pwN 7 x)) txt } draw.toNat).2.2) := by
    rw [e, recvR, if_pos hk0, hk1]
    rw [if_pos (seal_opens key _ txt), seal_take, veil_veil]
  have e0 : recvErr d (headB n c p (pwN 7 x) ++ sealL key (headB n c p (pwN 7 x)) txt) draw = 0 := by
    rw [recvErr, if_pos (good_open h), if_pos hs, if_pos hl, er]
  exact ⟨e0, by rw [recvTxt, if_pos e0, er], by rw [recvS, er]⟩
/-- One that the key does not open is refused by its tag. -/
theorem recv_shut {d : List UInt8} {k : Nat} (h : GoodD d k) (n c p x : Nat) (y : List UInt8) (draw : Int) (hs : Sec draw) (h1 : 1 ≤ n) (hn : n ≤ 29) (hc : c ≤ 49) (hp : p ≤ 50) (hy : 8 ≤ y.length) (hy2 : y.length ≤ 48)
    (hk0 : (keyR (heldS d) { step := n, count := c, prev := p, pub := pwN 7 x, head := headB n c p (pwN 7 x), body := y } draw.toNat).1 = 0)
    (hk1 : ¬ opensL (keyR (heldS d) { step := n, count := c, prev := p, pub := pwN 7 x, head := headB n c p (pwN 7 x), body := y } draw.toNat).2.1 (headB n c p (pwN 7 x)) y) :
    recvErr d (headB n c p (pwN 7 x) ++ y) draw = 5 := by
  have hx := pwN_lt 7 x
  have hl := letOk_head n c p x y h1 hn hc hp hy hy2
  have e := letOf_head n c p (pwN 7 x) y (by omega) (by omega) (by omega) (by omega)
  have er : (recvR (heldS d) (letOf (headB n c p (pwN 7 x) ++ y)) draw.toNat).1 = 5 := by
    rw [e, recvR, if_pos hk0, if_neg hk1]
  rw [recvErr, if_pos (good_open h), if_pos hs, if_pos hl, er]
/-- keyR asks nothing of the letter's body. -/
theorem keyR_body (s : StM) (l : LetM) (y : List UInt8) (draw : Nat) : keyR s { l with body := y } draw = keyR s l draw := rfl
end Go.Proofs.Ytabpkohcimiceab

namespace Go.Proofs.Ytabpkohcimiceab
open Go.RowKit
set_option linter.unusedVariables false

/-! ### Parties: what they hold in memory -/
/-- A letter that was written, as pawlkeep has it. -/
structure LtM where
  bytes : List UInt8
  text : List UInt8
  step : Nat
  count : Nat
  prev : Nat
  secret : Nat
  out : Bool
theorem LtM.default_of : Nonempty LtM := ⟨⟨[], [], 0, 0, 0, 0, false⟩⟩
def ltZ : LtM := ⟨[], [], 0, 0, 0, 0, false⟩
def ltC (x : LtM) : List Value := [.string (str x.bytes), .string (str x.text), .int .i64 x.step, .int .i64 x.count, .int .i64 x.prev, .int .i64 x.secret, .bool x.out]
def ltsC : List LtM → List Value
  | [] => []
  | x :: l => ltC x ++ ltsC l
theorem ltsC_append : ∀ a b : List LtM, ltsC (a ++ b) = ltsC a ++ ltsC b
  | [], b => rfl
  | x :: a, b => by rw [List.cons_append, ltsC, ltsC_append a b, ltsC, List.append_assoc]
theorem ltsC_push (a : List LtM) (x : LtM) : ltsC (a ++ [x]) = ltsC a ++ ltC x := by rw [ltsC_append]; simp [ltsC]
theorem ltsC_length : ∀ a : List LtM, (ltsC a).length = a.length * 7
  | [] => rfl
  | x :: a => by rw [ltsC, List.length_append, ltsC_length a, List.length_cons]; simp [ltC]; omega
theorem ltsC_at : ∀ (a : List LtM) (i : Nat), i < a.length → ∀ j, j < 7 → (ltsC a)[i * 7 + j]? = (ltC (a.getD i ltZ))[j]?
  | [], i, h, _, _ => by simp at h
  | x :: a, 0, _, j, hj => by
    rw [ltsC, Nat.zero_mul, Nat.zero_add, List.getElem?_append_left (by simp [ltC]; exact hj)]; rfl
  | x :: a, i + 1, h, j, hj => by
    rw [ltsC, List.getElem?_append_right (by simp [ltC]; omega), show (i + 1) * 7 + j - (ltC x).length = i * 7 + j by simp [ltC]; omega, ltsC_at a i (by simp at h; omega) j hj]
    rfl
theorem ltsC_set : ∀ (a : List LtM) (i : Nat), i < a.length → (ltsC a).set (i * 7 + 6) (.bool true) = ltsC (a.set i { a.getD i ltZ with out := true })
  | [], i, h => by simp at h
  | x :: a, 0, _ => rfl
  | x :: a, i + 1, h => by
    rw [List.set_cons_succ, ltsC, ltsC, List.set_append_right _ _ (by simp [ltC]; omega), show (i + 1) * 7 + 6 - (ltC x).length = i * 7 + 6 by simp [ltC]; omega, ltsC_set a i (by simp at h; omega)]
    rfl
/-- Nothing but the blocks of S has changed. -/
structure Only (S : Nat → Prop) (w w' : World) : Prop where
  os : w'.os = w.os
  tape : w'.tape = w.tape
  output : w'.output = w.output
  size : w.heap.size ≤ w'.heap.size
  block : ∀ k, k < w.heap.size → ¬ S k → w'.heap[k]? = w.heap[k]?
theorem Only.refl (S : Nat → Prop) (w : World) : Only S w w := ⟨rfl, rfl, rfl, Nat.le_refl _, fun _ _ _ => rfl⟩
theorem Only.trans {S : Nat → Prop} {w w1 w2 : World} (h : Only S w w1) (h2 : Only S w1 w2) : Only S w w2 :=
  ⟨h2.os.trans h.os, h2.tape.trans h.tape, h2.output.trans h.output, Nat.le_trans h.size h2.size, fun k hk hs => (h2.block k (Nat.lt_of_lt_of_le hk h.size) hs).trans (h.block k hk hs)⟩
theorem Only.of_below {S : Nat → Prop} {w w' : World} (h : Below w.heap.size w w') : Only S w w' := ⟨h.os, h.tape, h.output, h.size, fun k hk _ => h.block k hk⟩
theorem Only.then {S : Nat → Prop} {w w1 w2 : World} (h : Only S w w1) (h2 : Below w1.heap.size w1 w2) : Only S w w2 := h.trans (Only.of_below h2)
theorem Only.set {S : Nat → Prop} {w w1 : World} (h : Only S w w1) {b i : Nat} (hb : S b) (x : Value) : Only S w (w1.setCell ⟨b, i, none⟩ x) :=
  h.trans ⟨rfl, rfl, rfl, by rw [World.size_setCell]; exact Nat.le_refl _, fun k _ hs => heap_setCell_other _ _ _ _ (fun e => hs (by rw [show k = b from e]; exact hb))⟩
theorem Only.grown {S : Nat → Prop} {w w1 w2 : World} {row : Option Nat} (h : Only S w w1) (hg : w1.grownBy w2 row) (hs : ∀ k, row = some k → k < w.heap.size → S k) : Only S w w2 := by
  obtain ⟨g1, g2, g3, g4, g5⟩ := hg
  refine ⟨g1.trans h.os, g2.trans h.tape, g3.trans h.output, Nat.le_trans h.size g4, fun k hk hk2 => (g5 k (Nat.lt_of_lt_of_le hk h.size) (fun e => hk2 (hs k e.symm hk))).trans (h.block k hk hk2)⟩
theorem Only.below {S : Nat → Prop} {w w' : World} {base : Nat} (h : Only S w w') (hb : base ≤ w.heap.size) (hs : ∀ k, S k → base ≤ k) : Below base w w' :=
  ⟨h.os, h.tape, h.output, h.size, fun k hk => h.block k (Nat.lt_of_lt_of_le hk hb) (fun q => by have := hs k q; omega)⟩
theorem Only.mono {S S' : Nat → Prop} {w w' : World} (h : Only S w w') (hs : ∀ k, k < w.heap.size → S k → S' k) : Only S' w w' :=
  ⟨h.os, h.tape, h.output, h.size, fun k hk hn => h.block k hk (fun q => hn (hs k hk q))⟩
theorem Only.own {S : Nat → Prop} {w w' : World} {base n size : Nat} {e : TypeId} {v : Value} {xs : List Value} (h : Only S w w') (ho : w.ownsRow base e size v n xs) (hs : ∀ k, v.ownBlock = some k → ¬ S k) : w'.ownsRow base e size v n xs := by
  refine ⟨ho.1, ?_⟩
  rcases ho.2 with q | ⟨g, cap, cur, h1, h2, h3, h4⟩
  · exact .inl q
  · have hlt : g < w.heap.size := by
      rcases Nat.lt_or_ge g w.heap.size with q | q
      · exact q
      · rw [Array.getElem?_eq_none (by exact q)] at h3; cases h3
    exact .inr ⟨g, cap, cur, h1, h2, (h.block g hlt (hs g (by rw [h1]; rfl))).trans h3, h4⟩
/-- What lies in a row of letters. -/
theorem ltRow {w : World} {base : Nat} {e : TypeId} {v : Value} {L : List LtM} (h : w.ownsRow base e 7 v L.length (ltsC L)) {i : Nat} (hi : i < L.length) :
    ∃ g cap, v = .slice (some ⟨g, 0, none⟩) L.length cap ∧ base ≤ g ∧ w.cell? ⟨g, i * 7, none⟩ = some (.string (str (L.getD i ltZ).bytes)) ∧ w.cell? ⟨g, i * 7 + 1, none⟩ = some (.string (str (L.getD i ltZ).text)) ∧ w.cell? ⟨g, i * 7 + 2, none⟩ = some (.int .i64 ((L.getD i ltZ).step : Int)) ∧ w.cell? ⟨g, i * 7 + 6, none⟩ = some (.bool (L.getD i ltZ).out) ∧ ∀ j, w.frozen? ⟨g, j, none⟩ = false := by
  obtain ⟨g, cap, hv⟩ : ∃ g cap, v = .slice (some ⟨g, 0, none⟩) L.length cap := by
    rcases h.2 with ⟨_, q⟩ | ⟨g, cap, _, h1, _⟩
    · omega
    · exact ⟨g, cap, h1⟩
  subst hv
  have hb := (h.lt g rfl).1
  have hc : ∀ j, j < 7 → w.cell? ⟨g, i * 7 + j, none⟩ = (ltC (L.getD i ltZ))[j]? := fun j hj => by
    rw [h.cellAt (i * 7 + j) (by omega), ltsC_at L i hi j hj]
  exact ⟨g, cap, rfl, hb, hc 0 (by omega), hc 1 (by omega), hc 2 (by omega), hc 6 (by omega), fun j => h.frozenAt j⟩
theorem ltForm {w : World} {base : Nat} {e : TypeId} {v : Value} {L : List LtM} (h : w.ownsRow base e 7 v L.length (ltsC L)) : ∃ a c, v = .slice a L.length c := by
  rcases h.2 with ⟨q, q2⟩ | ⟨g, cap, _, h1, _⟩
  · exact ⟨none, 0, by rw [q, q2]⟩
  · exact ⟨_, _, h1⟩
end Go.Proofs.Ytabpkohcimiceab
