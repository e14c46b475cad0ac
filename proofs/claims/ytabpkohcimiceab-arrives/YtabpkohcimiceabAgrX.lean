import Derived.Test.YtabpkohcimiceabKeepM
import Derived.Test.YtabpkohcimiceabAllX
namespace Go.Proofs.Ytabpkohcimiceab
set_option maxRecDepth 100000
set_option maxHeartbeats 1000000
open Go.RowKit
set_option linter.unusedVariables false
theorem sh_comm (x y : Nat) : pwN (pwN 7 x) y = pwN (pwN 7 y) x := by rw [pwN_pow, pwN_pow, Nat.mul_comm]
def rootN (r : List UInt8) (a : Nat → Nat) : Nat → List UInt8
  | 0 => r
  | n + 1 => rootL (rootN r a n) (pwN (pwN 7 (a n)) (a (n + 1)))
def chN (r : List UInt8) (a : Nat → Nat) (n : Nat) : List UInt8 := chainL (rootN r a (n - 1)) (pwN (pwN 7 (a (n - 1))) (a n))
theorem rootN_congr (r : List UInt8) (a b : Nat → Nat) : ∀ n, (∀ i, i ≤ n → a i = b i) → rootN r a n = rootN r b n
  | 0, _ => rfl
  | n + 1, h => by rw [rootN, rootN, rootN_congr r a b n (fun i hi => h i (by omega)), h n (by omega), h (n + 1) (Nat.le_refl _)]
theorem chN_congr (r : List UInt8) (a b : Nat → Nat) (n : Nat) (h : ∀ i, i ≤ n → a i = b i) : chN r a n = chN r b n := by
  rw [chN, chN, rootN_congr r a b (n - 1) (fun i hi => h i (by omega)), h (n - 1) (by omega), h n (Nat.le_refl _)]
theorem chainK_add (k : List UInt8) (n : Nat) : ∀ m, chainK (chainK k n) m = chainK k (n + m)
  | 0 => rfl
  | m + 1 => by rw [chainK, chainK_add k n m]; rfl
structure BoxI (r : List UInt8) (a : Nat → Nat) (s : StM) : Prop where
  sec : s.secret = a s.step
  peer : 1 ≤ s.step → s.peer = pwN 7 (a (s.step - 1))
  root : s.root = rootN r a s.step
  out : 1 ≤ s.step → s.out = chainK (chN r a s.step) s.sent
  inn : 2 ≤ s.step → s.inn = chainK (chN r a (s.step - 1)) s.got
  kept : ∀ e ∈ s.kept, e.key = keyK (chainK (chN r a e.step) e.count)
theorem BoxI.send {r : List UInt8} {a : Nat → Nat} {s : StM} (h : BoxI r a s) : BoxI r a (sendS s) :=
  ⟨h.sec, h.peer, h.root, fun q => by
    show nextK s.out = chainK (chN r a s.step) (s.sent + 1)
    rw [h.out q]; rfl, h.inn, h.kept⟩
theorem BoxI.cap {r : List UInt8} {a : Nat → Nat} {s : StM} (h : BoxI r a s) : BoxI r a (capS s) :=
  ⟨h.sec, h.peer, h.root, h.out, h.inn, fun e he => h.kept e (List.mem_of_mem_drop he)⟩
theorem BoxI.congr {r : List UInt8} {a b : Nat → Nat} {s : StM} (h : BoxI r a s) (hab : ∀ i, i ≤ s.step → a i = b i) (hk : ∀ e ∈ s.kept, e.step ≤ s.step) : BoxI r b s :=
  ⟨by rw [h.sec]; exact hab _ (Nat.le_refl _), fun q => by rw [h.peer q, hab _ (by omega)], by rw [h.root]; exact rootN_congr r a b _ hab, fun q => by rw [h.out q, chN_congr r a b _ hab], fun q => by rw [h.inn q, chN_congr r a b _ (fun i hi => hab i (by omega))], fun e he => by rw [h.kept e he, chN_congr r a b _ (fun i hi => hab i (by have := hk e he; omega))]⟩
theorem spanL_key (k : List UInt8) (step due : Nat) : ∀ n e, e ∈ spanL k step due n → e.step = step ∧ due ≤ e.count ∧ e.key = keyK (chainK k (e.count - due))
  | 0, e, h => by simp [spanL] at h
  | n + 1, e, h => by
    rw [spanL] at h
    rcases List.mem_append.1 h with h | h
    · exact spanL_key k step due n e h
    · rw [List.mem_singleton.1 h]
      refine ⟨rfl, Nat.le_add_right _ _, ?_⟩
      show keyK (chainK k n) = keyK (chainK k (due + n - due))
      rw [Nat.add_sub_cancel_left]
theorem BoxI.pass {r : List UInt8} {a : Nat → Nat} {s : StM} (h : BoxI r a s) (h2 : 2 ≤ s.step) (count : Nat) : BoxI r a (passS s count) := by
  refine ⟨h.sec, h.peer, h.root, h.out, fun q => ?_, fun e he => ?_⟩
  · show chainK s.inn (count - s.got) = chainK (chN r a (s.step - 1)) (s.got + (count - s.got))
    rw [h.inn h2, chainK_add]
  · rcases List.mem_append.1 he with he | he
    · exact h.kept e he
    · obtain ⟨e1, e2, e3⟩ := spanL_key _ _ _ _ e he
      rw [e3, e1, h.inn h2, chainK_add, show s.got + (e.count - s.got) = e.count by omega]
theorem BoxI.due {r : List UInt8} {a : Nat → Nat} {s : StM} (h : BoxI r a s) (h2 : 2 ≤ s.step) (count : Nat) (hc : s.got ≤ count) : BoxI r a (dueS s count) ∧ dueKey s count = keyK (chainK (chN r a (s.step - 1)) count) := by
  have hp := h.pass h2 count
  have e : (passS s count).inn = chainK (chN r a (s.step - 1)) count := by
    have := hp.inn h2
    show (passS s count).inn = _
    rw [this]
    show chainK (chN r a (s.step - 1)) (s.got + (count - s.got)) = _
    rw [show s.got + (count - s.got) = count by omega]
  refine ⟨⟨hp.sec, hp.peer, hp.root, hp.out, fun q => ?_, hp.kept⟩, by rw [dueKey, e]⟩
  show nextK (passS s count).inn = chainK (chN r a (s.step - 1)) (count + 1)
  rw [e]; rfl
theorem BoxI.ends {r : List UInt8} {a : Nat → Nat} {s : StM} (h : BoxI r a s) (prev : Nat) : BoxI r a (endS s prev) := by
  rw [endS]
  by_cases h2 : 2 ≤ s.step
  · rw [if_pos h2]; exact h.pass h2 prev
  · rw [if_neg h2]; exact h
def updN (a : Nat → Nat) (n x : Nat) : Nat → Nat := fun i => if i = n then x else a i
theorem updN_at (a : Nat → Nat) (n x : Nat) : updN a n x n = x := if_pos rfl
theorem updN_ne (a : Nat → Nat) (n x i : Nat) (h : i ≠ n) : updN a n x i = a i := if_neg h
theorem BoxI.turn {r : List UInt8} {a : Nat → Nat} {s : StM} (h : BoxI r a s) (hk : ∀ e ∈ s.kept, e.step < s.step) (step pub draw : Nat) (h1 : step = s.step + 1) (hp : pub = pwN 7 (a step)) : BoxI r (updN a (step + 1) draw) (turnS s step pub draw) := by
  have hab : ∀ i, i ≤ step → a i = updN a (step + 1) draw i := fun i hi => (updN_ne a _ _ i (by omega)).symm
  have hr : rootL s.root (pwN pub s.secret) = rootN r (updN a (step + 1) draw) step := by
    rw [h.root, hp, h.sec, sh_comm, ← rootN_congr r a _ step hab, h1]
    rfl
  refine ⟨(updN_at _ _ _).symm, fun _ => ?_, ?_, fun _ => ?_, fun _ => ?_, fun e he => ?_⟩
  · show pub = pwN 7 (updN a (step + 1) draw (step + 1 - 1))
    rw [hp, Nat.add_sub_cancel, ← hab step (Nat.le_refl _)]
  · show rootL (rootL s.root (pwN pub s.secret)) (pwN pub draw) = rootN r (updN a (step + 1) draw) (step + 1)
    rw [hr, rootN, updN_at, ← hab step (Nat.le_refl _), hp]
  · show chainL (rootL s.root (pwN pub s.secret)) (pwN pub draw) = chainK (chN r (updN a (step + 1) draw) (step + 1)) 0
    rw [hr, hp, chainK, chN, Nat.add_sub_cancel, updN_at, ← hab step (Nat.le_refl _)]
  · show chainL s.root (pwN pub s.secret) = chainK (chN r (updN a (step + 1) draw) (step + 1 - 1)) 0
    rw [Nat.add_sub_cancel, chainK, ← chN_congr r a _ step hab, chN, h.root, h.sec, hp, sh_comm, show step - 1 = s.step by omega]
  · have := hk e he
    rw [h.kept e he, chN_congr r a _ e.step (fun i hi => hab i (by omega))]
theorem take_fits {r : List UInt8} {a : Nat → Nat} {s : StM} (h : BoxI r a s) (hq : LawQ s) (l : LetM) (draw : Nat) (hp : l.step = s.step + 1 → l.pub = pwN 7 (a l.step)) (hok : (keyR s l draw).1 = 0) (h1 : 1 ≤ l.step) :
    (keyR s l draw).2.1 = keyK (chainK (chN r a l.step) l.count) ∧ BoxI r (if l.step = s.step + 1 then updN a (l.step + 1) draw else a) (keyR s l draw).2.2 := by
  rw [keyR] at hok ⊢
  by_cases hx : s.step + 1 < l.step ∨ l.step % 2 = s.step % 2
  · rw [if_pos hx] at hok; simp at hok
  · rw [if_neg hx] at hok ⊢
    by_cases hl : l.step = s.step + 1
    · rw [if_pos hl] at hok ⊢
      rw [if_pos hl]
      rw [turnR] at hok ⊢
      by_cases h2 : 2 ≤ s.step ∧ skipBad s l.prev
      · rw [if_pos h2] at hok; simp at hok
      · rw [if_neg h2] at hok ⊢
        rw [dueR] at hok ⊢
        have hes := (endS_step s l.prev).1
        have hke : ∀ e ∈ (endS s l.prev).kept, e.step < (endS s l.prev).step := by
          intro e he
          rw [hes]
          rw [endS] at he
          by_cases q2 : 2 ≤ s.step
          · rw [if_pos q2] at he
            rcases List.mem_append.1 he with he | he
            · exact (hq.keys.lo e he).2.1
            · have := (spanL_key _ _ _ _ e he).1; omega
          · rw [if_neg q2] at he
            exact (hq.keys.lo e he).2.1
        have ht := (h.ends l.prev).turn hke l.step l.pub draw (by rw [hes]; exact hl) (hp hl)
        by_cases h3 : skipBad (turnS (endS s l.prev) l.step l.pub draw) l.count
        · rw [if_pos h3] at hok; simp at hok
        · rw [if_neg h3]
          obtain ⟨d1, d2⟩ := ht.due (by show 2 ≤ l.step + 1; omega) l.count (Nat.zero_le _)
          refine ⟨?_, d1⟩
          show dueKey _ _ = _
          rw [d2]
          show keyK (chainK (chN r (updN a (l.step + 1) draw) (l.step + 1 - 1)) l.count) = _
          rw [Nat.add_sub_cancel, ← chN_congr r a _ l.step (fun i hi => (updN_ne a _ _ i (by omega)).symm)]
    · rw [if_neg hl] at hok ⊢
      rw [if_neg hl]
      by_cases h2 : l.step + 1 = s.step ∧ s.got ≤ l.count
      · rw [if_pos h2] at hok ⊢
        rw [dueR] at hok ⊢
        by_cases h3 : skipBad s l.count
        · rw [if_pos h3] at hok; simp at hok
        · rw [if_neg h3]
          obtain ⟨d1, d2⟩ := h.due (by omega) l.count h2.2
          refine ⟨?_, d1⟩
          show dueKey _ _ = _
          rw [d2, show s.step - 1 = l.step by omega]
      · rw [if_neg h2] at hok ⊢
        rw [oldR] at hok ⊢
        cases hf : s.kept.find? (isEnt l.step l.count) with
        | none => rw [hf] at hok; simp at hok
        | some e =>
          have hm := List.mem_of_find?_eq_some hf
          have he := (isEnt_iff _ _ _).1 (List.find?_some hf)
          refine ⟨?_, ⟨h.sec, h.peer, h.root, h.out, h.inn, fun x hx => h.kept x (List.mem_filter.1 hx).1⟩⟩
          show e.key = _
          rw [h.kept e hm, he.1, he.2]
def letB (r : List UInt8) (a : Nat → Nat) (n c p : Nat) (t : List UInt8) : List UInt8 := headB n c p (pwN 7 (a n)) ++ sealL (keyK (chainK (chN r a n) c)) (headB n c p (pwN 7 (a n))) t
theorem letL_eq {r : List UInt8} {a : Nat → Nat} {s : StM} (h : BoxI r a s) (h1 : 1 ≤ s.step) (t : List UInt8) : letL s t = letB r a s.step s.sent s.prev t := by
  rw [letL, letB, h.sec, h.out h1]
theorem letB_congr (r : List UInt8) (a b : Nat → Nat) (n c p : Nat) (t : List UInt8) (h : ∀ i, i ≤ n → a i = b i) : letB r a n c p t = letB r b n c p t := by
  rw [letB, letB, chN_congr r a b n h, h n (Nat.le_refl _)]
theorem letB_length (r : List UInt8) (a : Nat → Nat) (n c p : Nat) (t : List UInt8) : (letB r a n c p t).length = 15 + t.length := by
  rw [letB, List.length_append, headB_length, sealL_length]; omega
theorem letOf_head (n c p pub : Nat) (y : List UInt8) (hn : n ≤ 255) (hc : c ≤ 255) (hp : p ≤ 255) (hpub : pub < 4294967296) : letOf (headB n c p pub ++ y) = { step := n, count := c, prev := p, pub := pub, head := headB n c p pub, body := y } := by
  have e0 : ((headB n c p pub ++ y).getD 0 0).toNat = n := ofNat_toNat n hn; have e1 : ((headB n c p pub ++ y).getD 1 0).toNat = c := ofNat_toNat c hc; have e2 : ((headB n c p pub ++ y).getD 2 0).toNat = p := ofNat_toNat p hp; have e3 : (headB n c p pub ++ y).drop 3 = fourN pub ++ y := rfl; rw [letOf, e0, e1, e2, e3, wn_fourN pub hpub, drop_app _ _ 7 (headB_length _ _ _ _), take_app _ _ 7 (headB_length _ _ _ _)]
theorem pub_of (x : Nat) : Pub ((pwN 7 x : Nat) : Int) := by
  have h1 := pwN7_pos x; have h2 := pwN_lt 7 x
  unfold Pub; omega
theorem letOk_head (n c p x : Nat) (y : List UInt8) (h1 : 1 ≤ n) (hn : n ≤ 29) (hc : c ≤ 49) (hp : p ≤ 50) (hy : 8 ≤ y.length) (hy2 : y.length ≤ 48) : letOk (headB n c p (pwN 7 x) ++ y) := by
  have hx := pwN_lt 7 x
  have e := letOf_head n c p (pwN 7 x) y (by omega) (by omega) (by omega) (by omega)
  refine ⟨by rw [List.length_append, headB_length]; omega, ?_⟩
  rw [e]; exact ⟨h1, hn, hc, hp, pub_of x⟩
theorem good_pack {s : StM} (lv k : Nat) (h : LawQ s) (hk : Keyed s) (hc : s.kept.length ≤ s.cap) (hl : lv ≤ 1) (hn : 1 + 2 * halfN s.cap ≤ k) (hk2 : k ≤ 40) : GoodD (packL s lv (k * 32)) k ∧ heldS (packL s lv (k * 32)) = s ∧ liveL (packL s lv (k * 32)) = lv := by
  have hcap := h.cap
  have hok : StOk s := stOk_of h hk (by omega)
  have hlaw : lawfulL s = true := (law_iff s).2 ⟨h, hc⟩; obtain ⟨g1, g2, g3⟩ := pack_held lv k hok hc hcap hl hn hlaw; have hlen := packL_length s lv k hok hc hl hn
  refine ⟨⟨disk_of_len _ k hlen (by omega) hk2, hlen, by omega, hk2, g1, by rw [g2, g3], by rw [g2]; exact hok, by rw [g2]; exact hc, by rw [g2]; exact hcap, by rw [g3]; exact hl, by rw [g2]; exact hn, by rw [g2]; exact hlaw⟩, g2, g3⟩
theorem good_open {d : List UInt8} {k : Nat} (h : GoodD d k) : openErr d = 0 := by
  have hr := repair_pack (s := heldS d) (liveL d) k h.ok h.kept h.cap h.live h.need h.k2 h.law
  rw [← h.pack] at hr
  rw [open_eq, openR, hr, if_pos rfl, if_pos rfl, if_neg]
  intro e
  obtain ⟨p1, _⟩ := pack_parts (s := heldS d) (liveL d) k h.ok h.kept h.cap h.live h.need
  rw [← h.pack] at p1
  apply top_not (heldS d).cap (liveL d)
  rw [← p1]; have h1 := h.len; have h2 := h.k1
  exact zero_take d (by omega) e
theorem send_good {d : List UInt8} {k : Nat} (h : GoodD d k) (t : List UInt8) (he : sendErr d t = 0) : GoodD (sendTo d t) k ∧ heldS (sendTo d t) = sendS (heldS d) := by
  obtain ⟨_, _, h0, h50, _⟩ := send_ok _ _ he; obtain ⟨gl, gk⟩ := good_lawQ h; obtain ⟨sl, sk⟩ := send_law gl gk h0 h50; have hlv := h.live
  obtain ⟨g1, g2, _⟩ := good_pack (s := sendS (heldS d)) (1 - liveL d) k sl sk h.kept (by omega) h.need h.k2
  have hto : sendTo d t = packL (sendS (heldS d)) (1 - liveL d) (k * 32) := by rw [sendTo, if_pos he, h.len]
  rw [hto]; exact ⟨g1, g2⟩
theorem recv_good {d : List UInt8} {k : Nat} (h : GoodD d k) (t : List UInt8) (draw : Int) (he : recvErr d t draw = 0) : GoodD (recvTo d t draw) k ∧ heldS (recvTo d t draw) = recvS d t draw := by
  obtain ⟨h0, hs, hl, hr⟩ := recvErr_ok he; obtain ⟨gl, gk⟩ := good_lawQ h; have hkl := h.kept; have hcap := h.cap; obtain ⟨p1, p2, p3, p4, p5, p6, p7, p8⟩ := letOk_parts hl
  obtain ⟨xl, xk, xc, xn⟩ := recv_law gl gk (by omega) (letOf t) draw.toNat p1 p2 p3 p4 p5 (by rw [sec_nat hs]; exact hs) hr
  have e1 : recvS d t draw = (recvR (heldS d) (letOf t) draw.toNat).2.2 := by rw [recvS]
  rw [← e1] at xl xk xc xn
  have hto : recvTo d t draw = packL (recvS d t draw) (1 - liveL d) (k * 32) := by rw [recvTo, if_pos he, h.len]
  have hlv := h.live; have hneed := h.need
  obtain ⟨g1, g2, _⟩ := good_pack (s := recvS d t draw) (1 - liveL d) k xl xk xn (by omega) (by rw [xc]; exact hneed) h.k2
  rw [hto]; exact ⟨g1, g2⟩
theorem recv_opens {d : List UInt8} {k : Nat} (h : GoodD d k) (n c p x : Nat) (key txt : List UInt8) (draw : Int) (hs : Sec draw) (h1 : 1 ≤ n) (hn : n ≤ 29) (hc : c ≤ 49) (hp : p ≤ 50) (ht : txt.length ≤ 40)
    (hk0 : (keyR (heldS d) { step := n, count := c, prev := p, pub := pwN 7 x, head := headB n c p (pwN 7 x), body := sealL key (headB n c p (pwN 7 x)) txt } draw.toNat).1 = 0)
    (hk1 : (keyR (heldS d) { step := n, count := c, prev := p, pub := pwN 7 x, head := headB n c p (pwN 7 x), body := sealL key (headB n c p (pwN 7 x)) txt } draw.toNat).2.1 = key) :
    recvErr d (headB n c p (pwN 7 x) ++ sealL key (headB n c p (pwN 7 x)) txt) draw = 0 ∧ recvTxt d (headB n c p (pwN 7 x) ++ sealL key (headB n c p (pwN 7 x)) txt) draw = txt ∧
    recvS d (headB n c p (pwN 7 x) ++ sealL key (headB n c p (pwN 7 x)) txt) draw = capS (keyR (heldS d) { step := n, count := c, prev := p, pub := pwN 7 x, head := headB n c p (pwN 7 x), body := sealL key (headB n c p (pwN 7 x)) txt } draw.toNat).2.2 := by
  have hx := pwN_lt 7 x
  have hl := letOk_head n c p x (sealL key (headB n c p (pwN 7 x)) txt) h1 hn hc hp (by rw [sealL_length]; omega) (by rw [sealL_length]; omega)
  have e := letOf_head n c p (pwN 7 x) (sealL key (headB n c p (pwN 7 x)) txt) (by omega) (by omega) (by omega) (by omega)
  have er : recvR (heldS d) (letOf (headB n c p (pwN 7 x) ++ sealL key (headB n c p (pwN 7 x)) txt)) draw.toNat = (0, txt, capS (keyR (heldS d) { step := n, count := c, prev := p, pub := pwN 7 x, head := headB n c p (pwN 7 x), body := sealL key (headB n c p (pwN 7 x)) txt } draw.toNat).2.2) := by
    rw [e, recvR, if_pos hk0, hk1]; rw [if_pos (seal_opens key _ txt), seal_take, veil_veil]
  have e0 : recvErr d (headB n c p (pwN 7 x) ++ sealL key (headB n c p (pwN 7 x)) txt) draw = 0 := by
    rw [recvErr, if_pos (good_open h), if_pos hs, if_pos hl, er]
  exact ⟨e0, by rw [recvTxt, if_pos e0, er], by rw [recvS, er]⟩
theorem recv_shut {d : List UInt8} {k : Nat} (h : GoodD d k) (n c p x : Nat) (y : List UInt8) (draw : Int) (hs : Sec draw) (h1 : 1 ≤ n) (hn : n ≤ 29) (hc : c ≤ 49) (hp : p ≤ 50) (hy : 8 ≤ y.length) (hy2 : y.length ≤ 48)
    (hk0 : (keyR (heldS d) { step := n, count := c, prev := p, pub := pwN 7 x, head := headB n c p (pwN 7 x), body := y } draw.toNat).1 = 0)
    (hk1 : ¬ opensL (keyR (heldS d) { step := n, count := c, prev := p, pub := pwN 7 x, head := headB n c p (pwN 7 x), body := y } draw.toNat).2.1 (headB n c p (pwN 7 x)) y) :
    recvErr d (headB n c p (pwN 7 x) ++ y) draw = 5 := by
  have hx := pwN_lt 7 x; have hl := letOk_head n c p x y h1 hn hc hp hy hy2
  have e := letOf_head n c p (pwN 7 x) y (by omega) (by omega) (by omega) (by omega)
  have er : (recvR (heldS d) (letOf (headB n c p (pwN 7 x) ++ y)) draw.toNat).1 = 5 := by
    rw [e, recvR, if_pos hk0, if_neg hk1]
  rw [recvErr, if_pos (good_open h), if_pos hs, if_pos hl, er]
theorem set_app (a b : List UInt8) (j : Nat) (x : UInt8) (h : a.length ≤ j) : (a ++ b).set j x = a ++ b.set (j - a.length) x := List.set_append_right _ _ h
theorem takes_all {r : List UInt8} {a : Nat → Nat} {d : List UInt8} {k : Nat} (h : GoodD d k) (hb : BoxI r a (heldS d)) (n c p : Nat) (t : List UInt8) (draw : Int) (hs : Sec draw) (h1 : 1 ≤ n) (hn : n ≤ 29) (hc : c ≤ 49) (hp : p ≤ 50) (ht : t.length ≤ 40)
    (hk : (keyR (heldS d) { step := n, count := c, prev := p, pub := pwN 7 (a n), head := headB n c p (pwN 7 (a n)), body := sealL (keyK (chainK (chN r a n) c)) (headB n c p (pwN 7 (a n))) t } draw.toNat).1 = 0) :
    recvErr d (letB r a n c p t) draw = 0 ∧ recvTxt d (letB r a n c p t) draw = t ∧
    recvS d (letB r a n c p t) draw = capS (keyR (heldS d) { step := n, count := c, prev := p, pub := pwN 7 (a n), head := headB n c p (pwN 7 (a n)), body := sealL (keyK (chainK (chN r a n) c)) (headB n c p (pwN 7 (a n))) t } draw.toNat).2.2 ∧
    BoxI r (if n = (heldS d).step + 1 then updN a (n + 1) draw.toNat else a) (heldS (recvTo d (letB r a n c p t) draw)) ∧ GoodD (recvTo d (letB r a n c p t) draw) k ∧
    ∀ (j : Nat) (x : UInt8), 7 ≤ j → j < (letB r a n c p t).length → x ≠ (letB r a n c p t).getD j 0 → recvErr d ((letB r a n c p t).set j x) draw = 5 := by
  obtain ⟨gl, gk⟩ := good_lawQ h
  obtain ⟨f1, f2⟩ := take_fits hb gl { step := n, count := c, prev := p, pub := pwN 7 (a n), head := headB n c p (pwN 7 (a n)), body := sealL (keyK (chainK (chN r a n) c)) (headB n c p (pwN 7 (a n))) t } draw.toNat (fun _ => rfl) hk h1
  obtain ⟨o1, o2, o3⟩ := recv_opens h n c p (a n) (keyK (chainK (chN r a n) c)) t draw hs h1 hn hc hp ht hk f1; have o1' : recvErr d (letB r a n c p t) draw = 0 := o1; obtain ⟨g1, g2⟩ := recv_good h (letB r a n c p t) draw o1'
  refine ⟨o1, o2, o3, ?_, g1, ?_⟩
  · rw [g2]; have o3' : recvS d (letB r a n c p t) draw = _ := o3; rw [o3']; exact f2.cap
  · intro j x hj hjl hx
    rw [letB_length] at hjl
    have hset : (letB r a n c p t).set j x = headB n c p (pwN 7 (a n)) ++ (sealL (keyK (chainK (chN r a n) c)) (headB n c p (pwN 7 (a n))) t).set (j - 7) x := set_app _ _ j x hj; rw [hset]
    refine recv_shut h n c p (a n) _ draw hs h1 hn hc hp (by rw [List.length_set, sealL_length]; omega) (by rw [List.length_set, sealL_length]; omega) ?_ ?_
    · exact hk
    · have hfl := flip_shut (keyK (chainK (chN r a n) c)) (headB n c p (pwN 7 (a n))) t (headB_length _ _ _ _) j x (by rw [List.length_append, headB_length, sealL_length]; omega) hx
      have e1 : (headB n c p (pwN 7 (a n)) ++ sealL (keyK (chainK (chN r a n) c)) (headB n c p (pwN 7 (a n))) t).set j x = headB n c p (pwN 7 (a n)) ++ (sealL (keyK (chainK (chN r a n) c)) (headB n c p (pwN 7 (a n))) t).set (j - 7) x := hset
      rw [e1, take_app _ _ 7 (headB_length _ _ _ _), drop_app _ _ 7 (headB_length _ _ _ _)] at hfl
      intro q
      apply hfl
      have f1' : (keyR (heldS d) { step := n, count := c, prev := p, pub := pwN 7 (a n), head := headB n c p (pwN 7 (a n)), body := (sealL (keyK (chainK (chN r a n) c)) (headB n c p (pwN 7 (a n))) t).set (j - 7) x } draw.toNat).2.1 = keyK (chainK (chN r a n) c) := f1
      rw [f1'] at q
      exact q
theorem madeA_good (u0 u4 u5 u6 : Int) (u7 : List UInt8) (ca : Nat) (hca : ca ≤ 30) (hE : creErr (List.replicate (blankK ca u6 * 32) (0 : UInt8)) 0 (pickN u0 13) (ca : Int) (shOut (secN u5) 7) (sizedL u7 8) (secN u4) = 0) :
    ∃ k, GoodD (creTo (List.replicate (blankK ca u6 * 32) (0 : UInt8)) 0 (pickN u0 13) (ca : Int) (shOut (secN u5) 7) (sizedL u7 8) (secN u4)) k ∧ heldS (creTo (List.replicate (blankK ca u6 * 32) (0 : UInt8)) 0 (pickN u0 13) (ca : Int) (shOut (secN u5) 7) (sizedL u7 8) (secN u4)) = newS 0 (pickN u0 13).toNat ca (pwN 7 (secN u5).toNat) (sizedL u7 8) (secN u4).toNat := by
  obtain ⟨sk0, sk1⟩ := pickN_bd u0 13 (by omega)
  obtain ⟨rm0, rm1⟩ := pickN_bd u6 4 (by omega)
  have hs4 := secN_sec u4; have hs5 := secN_sec u5; obtain ⟨hh1, hh2, _⟩ := halfN_le ca hca; have hbk : blankK ca u6 = 1 + 2 * halfN ca + (pickN u6 4).toNat := rfl
  have hpe : (shOut (secN u5) 7).toNat = pwN 7 (secN u5).toNat := by
    rw [shOut, if_pos ⟨hs5, by unfold Pub; omega⟩, pw, Int.toNat_natCast]
    rfl
  have hto : creTo (List.replicate (blankK ca u6 * 32) (0 : UInt8)) 0 (pickN u0 13) (ca : Int) (shOut (secN u5) 7) (sizedL u7 8) (secN u4) = packL (newS 0 (pickN u0 13).toNat ca (pwN 7 (secN u5).toNat) (sizedL u7 8) (secN u4).toNat) 0 (blankK ca u6 * 32) := by
    rw [creTo, if_pos hE, List.length_replicate, hpe, Int.toNat_natCast]; rfl
  have hpl := pwN_lt 7 (secN u5).toNat
  unfold Sec at hs4
  have hlaw := newS_lawful 0 (pickN u0 13).toNat ca (pwN 7 (secN u5).toNat) (secN u4).toNat (sizedL u7 8) (by omega) (by omega) hca (by unfold Sec; omega) (fun _ => pub_of _)
  have hok := newS_ok 0 (pickN u0 13).toNat ca (pwN 7 (secN u5).toNat) (secN u4).toNat (sizedL u7 8) (by omega) hca (sizedL_length _ _) (by omega) (by omega)
  obtain ⟨l1, l2⟩ := (law_iff _).1 hlaw
  obtain ⟨g1, g2, _⟩ := good_pack (s := newS 0 (pickN u0 13).toNat ca (pwN 7 (secN u5).toNat) (sizedL u7 8) (secN u4).toNat) 0 (blankK ca u6) l1 hok.keyed l2 (by omega) (by rw [newS_cap]; omega) (by omega)
  exact ⟨blankK ca u6, by rw [hto]; exact g1, by rw [hto]; exact g2⟩
theorem madeB_good (u2 u5 u6 : Int) (u7 : List UInt8) (cb : Nat) (hcb : cb ≤ 30) (hE : creErr (List.replicate (blankK cb u6 * 32) (0 : UInt8)) 1 (pickN u2 13) (cb : Int) 0 (sizedL u7 8) (secN u5) = 0) :
    ∃ k, GoodD (creTo (List.replicate (blankK cb u6 * 32) (0 : UInt8)) 1 (pickN u2 13) (cb : Int) 0 (sizedL u7 8) (secN u5)) k ∧ heldS (creTo (List.replicate (blankK cb u6 * 32) (0 : UInt8)) 1 (pickN u2 13) (cb : Int) 0 (sizedL u7 8) (secN u5)) = newS 1 (pickN u2 13).toNat cb 0 (sizedL u7 8) (secN u5).toNat := by
  obtain ⟨sk0, sk1⟩ := pickN_bd u2 13 (by omega)
  obtain ⟨rm0, rm1⟩ := pickN_bd u6 4 (by omega)
  have hs5 := secN_sec u5; obtain ⟨hh1, hh2, _⟩ := halfN_le cb hcb; have hbk : blankK cb u6 = 1 + 2 * halfN cb + (pickN u6 4).toNat := rfl
  have hto : creTo (List.replicate (blankK cb u6 * 32) (0 : UInt8)) 1 (pickN u2 13) (cb : Int) 0 (sizedL u7 8) (secN u5) = packL (newS 1 (pickN u2 13).toNat cb 0 (sizedL u7 8) (secN u5).toNat) 0 (blankK cb u6 * 32) := by
    rw [creTo, if_pos hE, List.length_replicate, Int.toNat_natCast]; rfl
  unfold Sec at hs5
  have hlaw := newS_lawful 1 (pickN u2 13).toNat cb 0 (secN u5).toNat (sizedL u7 8) (by omega) (by omega) hcb (by unfold Sec; omega) (fun q => by omega)
  have hok := newS_ok 1 (pickN u2 13).toNat cb 0 (secN u5).toNat (sizedL u7 8) (by omega) hcb (sizedL_length _ _) (by omega) (by omega)
  obtain ⟨l1, l2⟩ := (law_iff _).1 hlaw
  obtain ⟨g1, g2, _⟩ := good_pack (s := newS 1 (pickN u2 13).toNat cb 0 (sizedL u7 8) (secN u5).toNat) 0 (blankK cb u6) l1 hok.keyed l2 (by omega) (by rw [newS_cap]; omega) (by omega)
  exact ⟨blankK cb u6, by rw [hto]; exact g1, by rw [hto]; exact g2⟩
def a01 (x0 x1 : Nat) : Nat → Nat := fun n => if n = 0 then x0 else x1
theorem newA_fits (r : List UInt8) (skip cap x0 x1 : Nat) : BoxI r (a01 x0 x1) (newS 0 skip cap (pwN 7 x0) r x1) := by
  have e : newS 0 skip cap (pwN 7 x0) r x1 = { role := 0, step := 1, sent := 0, got := 0, prev := 0, skip := skip, cap := cap, root := rootL r (pwN (pwN 7 x0) x1), out := chainL r (pwN (pwN 7 x0) x1), inn := noneL, secret := x1, peer := pwN 7 x0, kept := [] } := by rw [newS, if_neg (by omega)]
  rw [e]
  exact ⟨rfl, fun _ => rfl, rfl, fun _ => rfl, fun q => by have : 2 ≤ 1 := q; omega, fun e he => by simp at he⟩
theorem newB_fits (r : List UInt8) (skip cap x0 x1 : Nat) : BoxI r (a01 x0 x1) (newS 1 skip cap 0 r x0) := by
  have e : newS 1 skip cap 0 r x0 = { role := 1, step := 0, sent := 0, got := 0, prev := 0, skip := skip, cap := cap, root := r, out := noneL, inn := noneL, secret := x0, peer := 0, kept := [] } := by rw [newS, if_pos rfl]
  rw [e]
  exact ⟨rfl, fun q => by have : 1 ≤ 0 := q; omega, rfl, fun q => by have : 1 ≤ 0 := q; omega, fun q => by have : 2 ≤ 0 := q; omega, fun e he => by simp at he⟩
def letQ (n c p pub : Nat) : LetM := { step := n, count := c, prev := p, pub := pub, head := [], body := [] }
theorem kr_refused {d : List UInt8} {k : Nat} (h : GoodD d k) (n c p x : Nat) (y : List UInt8) (draw e : Int) (hs : Sec draw) (h1 : 1 ≤ n) (hn : n ≤ 29) (hc : c ≤ 49) (hp : p ≤ 50) (hy : 8 ≤ y.length) (hy2 : y.length ≤ 48)
    (hk : (keyR (heldS d) (letQ n c p (pwN 7 x)) draw.toNat).1 = e) (he : e ≠ 0) : recvErr d (headB n c p (pwN 7 x) ++ y) draw = e := by
  have hx := pwN_lt 7 x; have hl := letOk_head n c p x y h1 hn hc hp hy hy2
  have e0 := letOf_head n c p (pwN 7 x) y (by omega) (by omega) (by omega) (by omega)
  have er : (recvR (heldS d) (letOf (headB n c p (pwN 7 x) ++ y)) draw.toNat).1 = e := by
    rw [e0, recvR]; have hk' : (keyR (heldS d) { step := n, count := c, prev := p, pub := pwN 7 x, head := headB n c p (pwN 7 x), body := y } draw.toNat).1 = e := hk
    rw [if_neg (by rw [hk']; exact he), hk']
  rw [recvErr, if_pos (good_open h), if_pos hs, if_pos hl, er]
theorem recv_other {d : List UInt8} {k : Nat} (h : GoodD d k) (t : List UInt8) (draw : Int) (he : recvErr d t draw = 0) : recvTo d t draw ≠ d := by
  obtain ⟨h0, hs, hl, hr⟩ := recvErr_ok he; obtain ⟨gl, gk⟩ := good_lawQ h; have hkl := h.kept; have hcap := h.cap; obtain ⟨p1, p2, p3, p4, p5, p6, p7, p8⟩ := letOk_parts hl
  obtain ⟨xl, xk, xc, xn⟩ := recv_law gl gk (by omega) (letOf t) draw.toNat p1 p2 p3 p4 p5 (by rw [sec_nat hs]; exact hs) hr
  have e1 : recvS d t draw = (recvR (heldS d) (letOf t) draw.toNat).2.2 := by rw [recvS]
  rw [← e1] at xl xk xc xn
  have hto : recvTo d t draw = packL (recvS d t draw) (1 - liveL d) (k * 32) := by rw [recvTo, if_pos he, h.len]
  have hlv := h.live; have hneed := h.need
  obtain ⟨_, _, g3⟩ := good_pack (s := recvS d t draw) (1 - liveL d) k xl xk xn (by omega) (by rw [xc]; exact hneed) h.k2
  intro e
  rw [hto] at e
  rw [e] at g3
  omega
theorem keyR_facts {s : StM} {l : LetM} {dn : Nat} (h : (keyR s l dn).1 = 0) : (keyR s l dn).2.2.step = (if l.step = s.step + 1 then l.step + 1 else s.step) ∧ (keyR s l dn).2.2.role = s.role ∧ (keyR s l dn).2.2.skip = s.skip ∧ (keyR s l dn).2.2.cap = s.cap ∧ (keyR s l dn).2.2.sent = (if l.step = s.step + 1 then 0 else s.sent) := by
  rw [keyR] at h ⊢
  by_cases hx : s.step + 1 < l.step ∨ l.step % 2 = s.step % 2
  · rw [if_pos hx] at h; simp at h
  · rw [if_neg hx] at h ⊢
    by_cases hl : l.step = s.step + 1
    · rw [if_pos hl] at h ⊢
      rw [if_pos hl, if_pos hl]
      rw [turnR] at h ⊢
      by_cases h2 : 2 ≤ s.step ∧ skipBad s l.prev
      · rw [if_pos h2] at h; simp at h
      · rw [if_neg h2] at h ⊢
        rw [dueR] at h ⊢
        by_cases h3 : skipBad (turnS (endS s l.prev) l.step l.pub dn) l.count
        · rw [if_pos h3] at h; simp at h
        · rw [if_neg h3]; obtain ⟨e1, e2, e3, e4, e5, e6, e7⟩ := endS_step s l.prev; exact ⟨rfl, e5, e2, e3, rfl⟩
    · rw [if_neg hl] at h ⊢
      rw [if_neg hl, if_neg hl]
      by_cases h2 : l.step + 1 = s.step ∧ s.got ≤ l.count
      · rw [if_pos h2] at h ⊢
        rw [dueR] at h ⊢
        by_cases h3 : skipBad s l.count
        · rw [if_pos h3] at h; simp at h
        · rw [if_neg h3]; exact ⟨rfl, rfl, rfl, rfl, rfl⟩
      · rw [if_neg h2] at h ⊢
        rw [oldR] at h ⊢
        cases hf : s.kept.find? (isEnt l.step l.count) with
        | none => rw [hf] at h; simp at h
        | some e => exact ⟨rfl, rfl, rfl, rfl, rfl⟩
structure WroteQ (r : List UInt8) (a : Nat → Nat) (s : StM) (bs tx : List UInt8) (n c p : Nat) : Prop where
  bytes : bs = letB r a n c p tx
  s1 : 1 ≤ n
  s2 : n ≤ s.step
  s3 : n ≤ 29
  par : n % 2 = s.step % 2
  cnt : c ≤ 49
  prv : p ≤ 50
  txt : tx.length ≤ 40
structure PairI (r : List UInt8) (a : Nat → Nat) (s t : StM) : Prop where
  bs : BoxI r a s
  bt : BoxI r a t
  ls : LawQ s
  lt : LawQ t
  st : s.step + 1 = t.step ∨ t.step + 1 = s.step
  sec : ∀ i, Sec ((a i : Nat) : Int)
theorem PairI.symm {r : List UInt8} {a : Nat → Nat} {s t : StM} (h : PairI r a s t) : PairI r a t s := ⟨h.bt, h.bs, h.lt, h.ls, h.st.symm, h.sec⟩
def nextA (a : Nat → Nat) (s : StM) (n dn : Nat) : Nat → Nat := if n = s.step + 1 then updN a (n + 1) dn else a
theorem nextA_low (a : Nat → Nat) (s : StM) (n dn i : Nat) (h : i ≤ s.step + 1) : nextA a s n dn i = a i := by
  rw [nextA]
  by_cases q : n = s.step + 1
  · rw [if_pos q, updN_ne _ _ _ _ (by omega)]
  · rw [if_neg q]
theorem WroteQ.next {r : List UInt8} {a b : Nat → Nat} {s s' : StM} {bs tx : List UInt8} {n c p : Nat} (h : WroteQ r a s bs tx n c p) (hs : s.step ≤ s'.step) (hp : s'.step % 2 = s.step % 2) (hab : ∀ i, i ≤ s.step → a i = b i) : WroteQ r b s' bs tx n c p := by
  have h2 := h.s2
  exact ⟨by rw [h.bytes]; exact letB_congr r a b n c p tx (fun i hi => hab i (by omega)), h.s1, by omega, h.s3, by rw [hp]; exact h.par, h.cnt, h.prv, h.txt⟩
theorem pair_ok {r : List UInt8} {a : Nat → Nat} {s t : StM} {d bs tx : List UInt8} {k n c p : Nat} (h : PairI r a s t) (hg : GoodD d k) (hd : heldS d = s) (hw : WroteQ r a t bs tx n c p) (draw : Int) (hs : Sec draw) (hk : (keyR s (letQ n c p (pwN 7 (a n))) draw.toNat).1 = 0) :
    recvErr d bs draw = 0 ∧ recvTxt d bs draw = tx ∧ heldS (recvTo d bs draw) = capS (keyR s (letQ n c p (pwN 7 (a n))) draw.toNat).2.2 ∧ GoodD (recvTo d bs draw) k ∧ recvTo d bs draw ≠ d ∧ PairI r (nextA a s n draw.toNat) (capS (keyR s (letQ n c p (pwN 7 (a n))) draw.toNat).2.2) t := by
  subst hd; have hb := h.bs; have hk' : (keyR (heldS d) { step := n, count := c, prev := p, pub := pwN 7 (a n), head := headB n c p (pwN 7 (a n)), body := sealL (keyK (chainK (chN r a n) c)) (headB n c p (pwN 7 (a n))) tx } draw.toNat).1 = 0 := hk; obtain ⟨r1, r2, r3, r4, r5, _⟩ := takes_all hg hb n c p tx draw hs hw.s1 hw.s3 hw.cnt hw.prv hw.txt hk'
  rw [← hw.bytes] at r1 r2 r3 r4 r5
  have g2 := (recv_good hg bs draw r1).2
  have hst : heldS (recvTo d bs draw) = capS (keyR (heldS d) (letQ n c p (pwN 7 (a n))) draw.toNat).2.2 := by rw [g2]; exact r3
  obtain ⟨f1, _⟩ := keyR_facts hk
  have f1' : (capS (keyR (heldS d) (letQ n c p (pwN 7 (a n))) draw.toNat).2.2).step = if n = (heldS d).step + 1 then n + 1 else (heldS d).step := f1
  have h2 := hw.s2; have hst2 := h.st
  refine ⟨r1, r2, hst, r5, recv_other hg bs draw r1, ⟨?_, ?_, ?_, h.lt, ?_, ?_⟩⟩
  · rw [← hst]; exact r4
  · refine h.bt.congr (fun i hi => ?_) (fun e he => Nat.le_of_lt (h.lt.keys.lo e he).2.1)
    rw [nextA]
    by_cases q : n = (heldS d).step + 1
    · rw [if_pos q, updN_ne _ _ _ _ (by omega)]
    · rw [if_neg q]
  · rw [← hst]; exact (good_lawQ r5).1
  · rw [f1']
    by_cases q : n = (heldS d).step + 1
    · rw [if_pos q]; right; omega
    · rw [if_neg q]; exact hst2
  · intro i
    rw [nextA]
    by_cases q : n = (heldS d).step + 1
    · rw [if_pos q, updN]
      by_cases qi : i = n + 1
      · rw [if_pos qi, sec_nat hs]; exact hs
      · rw [if_neg qi]; exact h.sec i
    · rw [if_neg q]; exact h.sec i
theorem pair_err {r : List UInt8} {a : Nat → Nat} {s t : StM} {d bs tx : List UInt8} {k n c p : Nat} (hg : GoodD d k) (hd : heldS d = s) (hw : WroteQ r a t bs tx n c p) (draw e : Int) (hs : Sec draw) (hk : (keyR s (letQ n c p (pwN 7 (a n))) draw.toNat).1 = e) (he : e ≠ 0) : recvErr d bs draw = e := by
  subst hd; rw [hw.bytes, letB]
  exact kr_refused hg n c p (a n) _ draw e hs hw.s1 hw.s3 hw.cnt hw.prv (by rw [sealL_length]; omega) (by rw [sealL_length]; have := hw.txt; omega) hk he
theorem pair_far {r : List UInt8} {a : Nat → Nat} {s t : StM} {bs tx : List UInt8} {n c p : Nat} (h : PairI r a s t) (hw : WroteQ r a t bs tx n c p) : ¬ (s.step + 1 < n ∨ n % 2 = s.step % 2) := by
  have h1 := hw.s2; have h2 := hw.par; have h3 := h.st
  omega
def goneQ (s : StM) (n c : Nat) : Prop := n + 1 ≤ s.step ∧ (n + 1 = s.step → c < s.got) ∧ ∀ e ∈ s.kept, ¬ (e.step = n ∧ e.count = c)
theorem gone_err {s : StM} {n c : Nat} (h : goneQ s n c) (p pub dn : Nat) (hf : ¬ (s.step + 1 < n ∨ n % 2 = s.step % 2)) : (keyR s (letQ n c p pub) dn).1 = 16 := by
  obtain ⟨h1, h2, h3⟩ := h; have hf' : ¬ (s.step + 1 < (letQ n c p pub).step ∨ (letQ n c p pub).step % 2 = s.step % 2) := hf
  have hfind : s.kept.find? (isEnt (letQ n c p pub).step (letQ n c p pub).count) = none := by
    rw [List.find?_eq_none]
    intro e he q
    exact h3 e he ((isEnt_iff _ _ _).1 q)
  rw [keyR, if_neg hf', if_neg (by show ¬ n = s.step + 1; omega), if_neg (by rintro ⟨q1, q2⟩; have q1' : n + 1 = s.step := q1; have q2' : s.got ≤ c := q2; have := h2 q1'; omega), oldR, hfind]
theorem gone_send {s : StM} {n c : Nat} (h : goneQ s n c) : goneQ (sendS s) n c := h
theorem gone_cap {s : StM} {n c : Nat} (h : goneQ s n c) : goneQ (capS s) n c := ⟨h.1, h.2.1, fun e he => h.2.2 e (List.mem_of_mem_drop he)⟩
theorem gone_pass {s : StM} {n c : Nat} (h : goneQ s n c) (count : Nat) : goneQ (passS s count) n c := by
  obtain ⟨h1, h2, h3⟩ := h
  refine ⟨h1, fun q => ?_, fun e he q => ?_⟩
  · have := h2 q
    show c < s.got + (count - s.got)
    omega
  · rcases List.mem_append.1 he with he | he
    · exact h3 e he q
    · obtain ⟨e1, e2, _⟩ := spanL_mem _ _ _ _ e he; obtain ⟨q1, q2⟩ := q
      have := h2 (by omega)
      omega
theorem gone_due {s : StM} {n c : Nat} (h : goneQ s n c) (count : Nat) (hc : s.got ≤ count) : goneQ (dueS s count) n c := by
  obtain ⟨h1, h2, h3⟩ := gone_pass h count
  refine ⟨h1, fun q => ?_, h3⟩
  have h2' : n + 1 = s.step → c < s.got + (count - s.got) := h2
  have := h2' q
  show c < count + 1
  omega
theorem gone_keep {s : StM} {n c : Nat} (h : goneQ s n c) (l : LetM) (dn : Nat) (hk : (keyR s l dn).1 = 0) : goneQ (capS (keyR s l dn).2.2) n c := by
  apply gone_cap
  rw [keyR] at hk ⊢
  by_cases hx : s.step + 1 < l.step ∨ l.step % 2 = s.step % 2
  · rw [if_pos hx] at hk; simp at hk
  · rw [if_neg hx] at hk ⊢
    by_cases hl : l.step = s.step + 1
    · rw [if_pos hl] at hk ⊢
      rw [turnR] at hk ⊢
      by_cases h2 : 2 ≤ s.step ∧ skipBad s l.prev
      · rw [if_pos h2] at hk; simp at hk
      · rw [if_neg h2] at hk ⊢
        rw [dueR] at hk ⊢
        by_cases h3 : skipBad (turnS (endS s l.prev) l.step l.pub dn) l.count
        · rw [if_pos h3] at hk; simp at hk
        · rw [if_neg h3]
          apply gone_due
          · have he : goneQ (endS s l.prev) n c := by
              rw [endS]; split
              · exact gone_pass h _
              · exact h
            obtain ⟨g1, g2, g3⟩ := he; have hes := (endS_step s l.prev).1
            refine ⟨?_, fun q => ?_, g3⟩
            · show n + 1 ≤ l.step + 1; omega
            · have : n + 1 = l.step + 1 := q; omega
          · exact Nat.zero_le _
    · rw [if_neg hl] at hk ⊢
      by_cases h2 : l.step + 1 = s.step ∧ s.got ≤ l.count
      · rw [if_pos h2] at hk ⊢
        rw [dueR] at hk ⊢
        by_cases h3 : skipBad s l.count
        · rw [if_pos h3] at hk; simp at hk
        · rw [if_neg h3]; exact gone_due h _ h2.2
      · rw [if_neg h2] at hk ⊢
        rw [oldR] at hk ⊢
        cases hf : s.kept.find? (isEnt l.step l.count) with
        | none => rw [hf] at hk; simp at hk
        | some e => exact ⟨h.1, h.2.1, fun x hx => h.2.2 x (List.mem_filter.1 hx).1⟩
theorem gone_new {s : StM} (hq : LawQ s) (l : LetM) (dn : Nat) (hk : (keyR s l dn).1 = 0) : goneQ (capS (keyR s l dn).2.2) l.step l.count := by
  apply gone_cap
  rw [keyR] at hk ⊢
  by_cases hx : s.step + 1 < l.step ∨ l.step % 2 = s.step % 2
  · rw [if_pos hx] at hk; simp at hk
  · rw [if_neg hx] at hk ⊢
    by_cases hl : l.step = s.step + 1
    · rw [if_pos hl] at hk ⊢
      rw [turnR] at hk ⊢
      by_cases h2 : 2 ≤ s.step ∧ skipBad s l.prev
      · rw [if_pos h2] at hk; simp at hk
      · rw [if_neg h2] at hk ⊢
        rw [dueR] at hk ⊢
        by_cases h3 : skipBad (turnS (endS s l.prev) l.step l.pub dn) l.count
        · rw [if_pos h3] at hk; simp at hk
        · rw [if_neg h3]
          refine ⟨Nat.le_refl _, fun _ => Nat.lt_succ_self _, fun e he q => ?_⟩
          rcases List.mem_append.1 he with he | he
          · have he' : e ∈ (endS s l.prev).kept := he
            rw [endS] at he'
            have : e.step < s.step := by
              split at he'
              · rcases List.mem_append.1 he' with he' | he'
                · exact (hq.keys.lo e he').2.1
                · have := (spanL_mem _ _ _ _ e he').1; omega
              · exact (hq.keys.lo e he').2.1
            omega
          · obtain ⟨e1, e2, e3, _⟩ := spanL_mem _ _ _ _ e he; have e3' : e.count < 0 + (l.count - 0) := e3
            omega
    · rw [if_neg hl] at hk ⊢
      by_cases h2 : l.step + 1 = s.step ∧ s.got ≤ l.count
      · rw [if_pos h2] at hk ⊢
        rw [dueR] at hk ⊢
        by_cases h3 : skipBad s l.count
        · rw [if_pos h3] at hk; simp at hk
        · rw [if_neg h3]
          refine ⟨by show l.step + 1 ≤ s.step; omega, fun _ => Nat.lt_succ_self _, fun e he q => ?_⟩
          rcases List.mem_append.1 he with he | he
          · have := (hq.keys.lo e he).2.2.2.2 (by omega)
            omega
          · obtain ⟨e1, e2, e3, _⟩ := spanL_mem _ _ _ _ e he
            omega
      · rw [if_neg h2] at hk ⊢
        rw [oldR] at hk ⊢
        cases hf : s.kept.find? (isEnt l.step l.count) with
        | none => rw [hf] at hk; simp at hk
        | some e =>
          refine ⟨by show l.step + 1 ≤ s.step; omega, fun q => ?_, fun x hx q => ?_⟩
          · have q' : l.step + 1 = s.step := q
            show l.count < s.got
            omega
          · have := (List.mem_filter.1 hx).2
            rw [(isEnt_iff _ _ _).2 q] at this
            simp at this
structure SideQ (r : List UInt8) (a : Nat → Nat) (s t : StM) (L : List LtM) : Prop where
  wrote : ∀ l ∈ L, WroteQ r a s l.bytes l.text l.step l.count l.prev ∧ l.secret = a l.step
  gone : ∀ l ∈ L, l.out = true → goneQ t l.step l.count
  len : L.length ≤ 50 * s.step + s.sent
structure KeepI (r : List UInt8) (a : Nat → Nat) (s t : StM) (Ls Lt : List LtM) : Prop where
  pair : PairI r a s t
  ls : SideQ r a s t Ls
  lt : SideQ r a t s Lt
theorem KeepI.symm {r : List UInt8} {a : Nat → Nat} {s t : StM} {Ls Lt : List LtM} (h : KeepI r a s t Ls Lt) : KeepI r a t s Lt Ls := ⟨h.pair.symm, h.lt, h.ls⟩
theorem KeepI.len_le {r : List UInt8} {a : Nat → Nat} {s t : StM} {Ls Lt : List LtM} (h : KeepI r a s t Ls Lt) : Ls.length ≤ 1550 := by
  have := h.ls.len
  have := h.pair.ls.step
  have := h.pair.ls.sent
  omega
def newLt (s : StM) (tx : List UInt8) : LtM := ⟨letL s tx, tx, s.step, s.sent, s.prev, s.secret, false⟩
theorem KeepI.sent {r : List UInt8} {a : Nat → Nat} {s t : StM} {Ls Lt : List LtM} (h : KeepI r a s t Ls Lt) (h0 : s.step ≠ 0) (h50 : s.sent < 50) (hl : LawQ (sendS s)) : KeepI r a (sendS s) t Ls Lt :=
  ⟨⟨h.pair.bs.send, h.pair.bt, hl, h.pair.lt, h.pair.st, h.pair.sec⟩, ⟨fun l hl => ⟨(h.ls.wrote l hl).1.next (Nat.le_refl _) rfl (fun _ _ => rfl), (h.ls.wrote l hl).2⟩, h.ls.gone, Nat.le_trans h.ls.len (by show 50 * s.step + s.sent ≤ 50 * s.step + (s.sent + 1); omega)⟩, ⟨h.lt.wrote, fun l hl q => gone_send (h.lt.gone l hl q), h.lt.len⟩⟩
theorem KeepI.wrote {r : List UInt8} {a : Nat → Nat} {s t : StM} {Ls Lt : List LtM} (h : KeepI r a s t Ls Lt) (h0 : s.step ≠ 0) (h50 : s.sent < 50) (h30 : s.step < 30) (hl : LawQ (sendS s)) (tx : List UInt8) (ht : tx.length ≤ 40) : KeepI r a (sendS s) t (Ls ++ [newLt s tx]) Lt := by
  obtain ⟨p, q, q2⟩ := h.sent h0 h50 hl
  refine ⟨p, ⟨fun l hl => ?_, fun l hl ho => ?_, ?_⟩, q2⟩
  · rcases List.mem_append.1 hl with hl | hl
    · exact q.wrote l hl
    · rw [List.mem_singleton.1 hl]; have hp := h.pair.ls.prev
      exact ⟨⟨letL_eq h.pair.bs (by omega) tx, by show 1 ≤ s.step; omega, Nat.le_refl _, by show s.step ≤ 29; omega, rfl, by show s.sent ≤ 49; omega, hp, ht⟩, h.pair.bs.sec⟩
  · rcases List.mem_append.1 hl with hl | hl
    · exact q.gone l hl ho
    · rw [List.mem_singleton.1 hl] at ho
      cases ho
  · have := h.ls.len
    rw [List.length_append]
    show Ls.length + 1 ≤ 50 * s.step + (s.sent + 1)
    omega
theorem KeepI.took {r : List UInt8} {a : Nat → Nat} {s t : StM} {Ls Lt : List LtM} {d : List UInt8} {k : Nat} (h : KeepI r a s t Ls Lt) (hg : GoodD d k) (hd : heldS d = s) (l : LtM) (hl : l ∈ Lt) (draw : Int) (hs : Sec draw) (hk : (keyR s (letQ l.step l.count l.prev (pwN 7 (a l.step))) draw.toNat).1 = 0) :
    KeepI r (nextA a s l.step draw.toNat) (capS (keyR s (letQ l.step l.count l.prev (pwN 7 (a l.step))) draw.toNat).2.2) t Ls Lt := by
  have hw := (h.lt.wrote l hl).1; obtain ⟨_, _, _, _, _, hp⟩ := pair_ok h.pair hg hd hw draw hs hk; obtain ⟨f1, _, _, _, f5⟩ := keyR_facts hk; have hst := h.pair.st; have h2 := hw.s2
  have f1' : (capS (keyR s (letQ l.step l.count l.prev (pwN 7 (a l.step))) draw.toNat).2.2).step = if l.step = s.step + 1 then l.step + 1 else s.step := f1
  have f5' : (capS (keyR s (letQ l.step l.count l.prev (pwN 7 (a l.step))) draw.toNat).2.2).sent = if l.step = s.step + 1 then 0 else s.sent := f5
  have hle := h.ls.len; have hsn := h.pair.ls.sent
  refine ⟨hp, ⟨fun x hx => ?_, h.ls.gone, ?_⟩, ⟨fun x hx => ?_, fun x hx ho => gone_keep (h.lt.gone x hx ho) _ _ hk, h.lt.len⟩⟩
  · obtain ⟨w1, w2⟩ := h.ls.wrote x hx; have hx2 := w1.s2
    refine ⟨w1.next ?_ ?_ (fun i hi => (nextA_low a s _ _ i (by omega)).symm), ?_⟩
    · rw [f1']; split <;> omega
    · rw [f1']; split <;> omega
    · rw [w2, nextA_low a s _ _ x.step (by omega)]
  · rw [f1', f5']
    by_cases q : l.step = s.step + 1
    · rw [if_pos q, if_pos q]; omega
    · rw [if_neg q, if_neg q]; exact hle
  · obtain ⟨w1, w2⟩ := h.lt.wrote x hx; have hx2 := w1.s2
    refine ⟨w1.next (Nat.le_refl _) rfl (fun i hi => (nextA_low a s _ _ i (by omega)).symm), ?_⟩
    rw [w2, nextA_low a s _ _ x.step (by omega)]
theorem KeepI.came {r : List UInt8} {a : Nat → Nat} {s t : StM} {Ls Lt : List LtM} {d : List UInt8} {k : Nat} (h : KeepI r a s t Ls Lt) (hg : GoodD d k) (hd : heldS d = s) (i : Nat) (hi : i < Lt.length) (draw : Int) (hs : Sec draw) (hk : (keyR s (letQ (Lt.getD i ltZ).step (Lt.getD i ltZ).count (Lt.getD i ltZ).prev (pwN 7 (a (Lt.getD i ltZ).step))) draw.toNat).1 = 0) :
    KeepI r (nextA a s (Lt.getD i ltZ).step draw.toNat) (capS (keyR s (letQ (Lt.getD i ltZ).step (Lt.getD i ltZ).count (Lt.getD i ltZ).prev (pwN 7 (a (Lt.getD i ltZ).step))) draw.toNat).2.2) t Ls (Lt.set i { Lt.getD i ltZ with out := true }) := by
  have hm : Lt.getD i ltZ ∈ Lt := by rw [List.getD_eq_getElem?_getD, List.getElem?_eq_getElem hi]; exact List.getElem_mem hi
  obtain ⟨p, q1, q2⟩ := h.took hg hd _ hm draw hs hk
  refine ⟨p, ⟨q1.wrote, q1.gone, q1.len⟩, ⟨fun x hx => ?_, fun x hx ho => ?_, by rw [List.length_set]; exact q2.len⟩⟩
  · rcases List.mem_or_eq_of_mem_set hx with hx | hx
    · exact q2.wrote x hx
    · have hz := q2.wrote (Lt.getD i ltZ) hm
      rw [hx]; exact hz
  · rcases List.mem_or_eq_of_mem_set hx with hx | hx
    · exact q2.gone x hx ho
    · rw [hx]; exact gone_new h.pair.ls (letQ (Lt.getD i ltZ).step (Lt.getD i ltZ).count (Lt.getD i ltZ).prev (pwN 7 (a (Lt.getD i ltZ).step))) draw.toNat hk
theorem KeepI.out {r : List UInt8} {a : Nat → Nat} {s t : StM} {Ls Lt : List LtM} (h : KeepI r a s t Ls Lt) (l : LtM) (hl : l ∈ Lt) (ho : l.out = true) (pub dn : Nat) : (keyR s (letQ l.step l.count l.prev pub) dn).1 = 16 :=
  gone_err (h.lt.gone l hl ho) _ _ _ (pair_far h.pair (h.lt.wrote l hl).1)
theorem keep_new (r : List UInt8) (sa ca sb cb x0 x1 : Nat) (h0 : Sec (x0 : Int)) (h1 : Sec (x1 : Int)) (la : LawQ (newS 0 sa ca (pwN 7 x0) r x1)) (lb : LawQ (newS 1 sb cb 0 r x0)) : KeepI r (a01 x0 x1) (newS 0 sa ca (pwN 7 x0) r x1) (newS 1 sb cb 0 r x0) [] [] := by
  refine ⟨⟨newA_fits r sa ca x0 x1, newB_fits r sb cb x0 x1, la, lb, ?_, fun i => ?_⟩, ⟨fun l hl => by simp at hl, fun l hl => by simp at hl, Nat.zero_le _⟩, ⟨fun l hl => by simp at hl, fun l hl => by simp at hl, Nat.zero_le _⟩⟩
  · right
    rw [newS, newS, if_pos rfl, if_neg (by omega)]
  · rw [a01]; split
    · exact h0
    · exact h1
end Go.Proofs.Ytabpkohcimiceab
