import Derived.Test.YtabpkohcimiceabFlipX
import Derived.Test.YtabpkohcimiceabAgr
import Derived.Test.YtabpkohcimiceabPartyX
import Derived.WalkKit
import Derived.WalkSpells
import Derived.WalkLawsBesides
import Derived.OwnWalk
import Derived.Laws.Rows
import Derived.Deep.RegionHeld3
import Derived.Deep.DeepMust
import Derived.Deep.DeepCutAuto
import Derived.Deep.AppendLies
import Derived.ProofKit
import Derived.OpenShut
import Derived.ChangeOld
import Derived.Below
import Derived.ChangeSlices
namespace Go.Proofs.Ytabpkohcimiceab
open Go.RowKit
set_option linter.unusedVariables false

/-! ### Letters of one step, in whatever order: what the box is behind them. Plain. -/
/-- The keys of the counts below n that have not come. -/
def waitL (C : List UInt8) (p : Nat → Bool) : Nat → List EntM
  | 0 => []
  | n + 1 => waitL C p n ++ if p n = true then [] else [⟨1, n, keyK (chainK C n)⟩]
def putP (p : Nat → Bool) (c : Nat) : Nat → Bool := fun i => i == c || p i
def topP (p : Nat → Bool) (m : Nat) : Prop := p m = true ∧ ∀ c, m < c → p c = false
def stP (T : StM) (p : Nat → Bool) (m : Nat) : StM := { T with got := m + 1, inn := chainK T.inn (m + 1), kept := waitL T.inn p (m + 1) }
theorem putP_at (p : Nat → Bool) (c : Nat) : putP p c c = true := by simp [putP]
theorem putP_ne (p : Nat → Bool) (c i : Nat) (h : i ≠ c) : putP p c i = p i := by simp [putP, h]
theorem waitL_congr (C : List UInt8) (p q : Nat → Bool) : ∀ n, (∀ i, i < n → p i = q i) → waitL C p n = waitL C q n
  | 0, _ => rfl
  | n + 1, h => by rw [waitL, waitL, waitL_congr C p q n (fun i hi => h i (by omega)), h n (by omega)]
theorem waitL_more (C : List UInt8) (p : Nat → Bool) (n : Nat) : ∀ d, (∀ i, n ≤ i → i < n + d → p i = false) → waitL C p (n + d) = waitL C p n ++ spanL (chainK C n) 1 n d
  | 0, _ => by rw [spanL, List.append_nil]; rfl
  | d + 1, h => by
    rw [← Nat.add_assoc, waitL, waitL_more C p n d (fun i h1 h2 => h i h1 (by omega)), h (n + d) (by omega) (by omega), if_neg (by simp), spanL, List.append_assoc, chainK_add]
theorem waitL_length (C : List UInt8) (p : Nat → Bool) : ∀ n, (waitL C p n).length ≤ n
  | 0 => Nat.le_refl _
  | n + 1 => by
    rw [waitL, List.length_append]
    have := waitL_length C p n
    split <;> simp <;> omega
theorem waitL_find (C : List UInt8) (p : Nat → Bool) (c : Nat) : ∀ n, (waitL C p n).find? (isEnt 1 c) = if c < n ∧ p c = false then some ⟨1, c, keyK (chainK C c)⟩ else none
  | 0 => by simp [waitL]
  | n + 1 => by
    rw [waitL, List.find?_append, waitL_find C p c n]
    by_cases h : c < n ∧ p c = false
    · rw [if_pos h, if_pos (show c < n + 1 ∧ p c = false from ⟨by omega, h.2⟩)]; rfl
    · rw [if_neg h]
      by_cases hn : c = n
      · subst hn
        cases hp : p c with
        | true => simp
        | false => simp [isEnt]
      · have hq : ¬ (c < n + 1 ∧ p c = false) := fun q => h ⟨by omega, q.2⟩
        rw [if_neg hq]
        cases hp : p n with
        | true => simp
        | false =>
          have : isEnt 1 c ⟨1, n, keyK (chainK C n)⟩ = false := isEnt_false _ _ _ (fun q => hn q.2.symm)
          simp [this]
theorem waitL_filter (C : List UInt8) (p : Nat → Bool) (c : Nat) : ∀ n, ((waitL C p n).filter fun e => !isEnt 1 c e) = waitL C (putP p c) n
  | 0 => rfl
  | n + 1 => by
    rw [waitL, List.filter_append, waitL_filter C p c n, waitL]
    congr 1
    by_cases hn : n = c
    · subst hn
      rw [putP_at, if_pos rfl]
      cases hp : p n with
      | true => rfl
      | false =>
        have : isEnt 1 n ⟨1, n, keyK (chainK C n)⟩ = true := (isEnt_iff _ _ _).2 ⟨rfl, rfl⟩
        simp [this]
    · rw [putP_ne p c n hn]
      cases hp : p n with
      | true => rfl
      | false =>
        have : isEnt 1 c ⟨1, n, keyK (chainK C n)⟩ = false := isEnt_false _ _ _ (fun q => hn q.2)
        simp [this]
theorem topP_put_hi {p : Nat → Bool} {m c : Nat} (h : topP p m) (hc : m < c) : topP (putP p c) c :=
  ⟨putP_at p c, fun i hi => by rw [putP_ne p c i (by omega)]; exact h.2 i (by omega)⟩
theorem topP_put_lo {p : Nat → Bool} {m c : Nat} (h : topP p m) (hc : c ≤ m) : topP (putP p c) m := by
  refine ⟨?_, fun i hi => by rw [putP_ne p c i (by omega)]; exact h.2 i hi⟩
  by_cases q : m = c
  · rw [← q]; exact putP_at p m
  · rw [putP_ne p c m q]; exact h.1
theorem topP_first (c : Nat) : topP (putP (fun _ => false) c) c := ⟨putP_at _ c, fun i hi => putP_ne _ c i (by omega)⟩
/-! what a box becomes -/
theorem due_first (T : StM) (c : Nat) (h2 : T.step = 2) (hg : T.got = 0) (hk : T.kept = []) : dueS T c = stP T (putP (fun _ => false) c) c := by
  have hw : waitL T.inn (putP (fun _ => false) c) (c + 1) = spanL T.inn 1 0 c := by
    rw [waitL, putP_at, if_pos rfl, List.append_nil]
    have := waitL_more T.inn (putP (fun _ => false) c) 0 c (fun i _ hi => putP_ne _ c i (by omega))
    rw [Nat.zero_add] at this
    rw [this]; rfl
  show ({ T with got := c + 1, inn := nextK (chainK T.inn (c - T.got)), kept := T.kept ++ spanL T.inn (T.step - 1) T.got (c - T.got) } : StM) = _
  rw [stP, hw, hk, h2, hg, List.nil_append]
  rfl
theorem due_next (T : StM) (p : Nat → Bool) (m c : Nat) (h2 : T.step = 2) (ht : topP p m) (hc : m < c) : dueS (stP T p m) c = stP T (putP p c) c := by
  obtain ⟨d, rfl⟩ : ∃ d, c = m + 1 + d := ⟨c - (m + 1), by omega⟩
  have hw : waitL T.inn (putP p (m + 1 + d)) (m + 1 + d + 1) = waitL T.inn p (m + 1) ++ spanL (chainK T.inn (m + 1)) 1 (m + 1) d := by
    rw [waitL, putP_at, if_pos rfl, List.append_nil, waitL_more T.inn _ (m + 1) d (fun i h1 h3 => by rw [putP_ne p _ i (by omega)]; exact ht.2 i (by omega)), waitL_congr T.inn _ p (m + 1) (fun i hi => putP_ne p _ i (by omega))]
  show ({ T with got := m + 1 + d + 1, inn := nextK (chainK (chainK T.inn (m + 1)) (m + 1 + d - (m + 1))), kept := waitL T.inn p (m + 1) ++ spanL (chainK T.inn (m + 1)) (T.step - 1) (m + 1) (m + 1 + d - (m + 1)) } : StM) = _
  rw [stP, hw, h2, Nat.add_sub_cancel_left, chainK_add]
  rfl
theorem old_next (T : StM) (p : Nat → Bool) (m c : Nat) : ({ stP T p m with kept := (stP T p m).kept.filter fun e => !isEnt 1 c e } : StM) = stP T (putP p c) m := by
  show ({ stP T p m with kept := (waitL T.inn p (m + 1)).filter fun e => !isEnt 1 c e } : StM) = _
  rw [waitL_filter]
  rfl
/-! what a letter gives -/
theorem key_first (s : StM) (l : LetM) (dn : Nat) (hs : s.step = 0) (hg : s.got = 0) (hk : s.kept = []) (hsk : s.skip = 12) (h1 : l.step = 1) (hc : l.count ≤ 12) :
    (keyR s l dn).1 = 0 ∧ (keyR s l dn).2.2 = dueS (turnS s l.step l.pub dn) l.count := by
  rw [keyR, if_neg (by omega), if_pos (by omega), turnR, if_neg (by omega), endS, if_neg (by omega), dueR, if_neg]
  · exact ⟨rfl, rfl⟩
  · rintro ⟨_, q⟩
    have q' : s.skip < ofL s.kept (l.step + 1 - 1) + (l.count - 0) := q
    rw [hk, ofL_nil] at q'
    omega
theorem key_due (T : StM) (p : Nat → Bool) (m : Nat) (l : LetM) (dn : Nat) (h2 : T.step = 2) (hsk : T.skip = 12) (ht : topP p m) (h1 : l.step = 1) (hm : m < l.count) (hc : l.count ≤ 12) :
    (keyR (stP T p m) l dn).1 = 0 ∧ (keyR (stP T p m) l dn).2.2 = dueS (stP T p m) l.count := by
  have e1 : (stP T p m).step = 2 := h2
  have e2 : (stP T p m).got = m + 1 := rfl
  rw [keyR, if_neg (by omega), if_neg (by omega), if_pos (by omega), dueR, if_neg]
  · exact ⟨rfl, rfl⟩
  · rintro ⟨_, q⟩
    have q' : T.skip < ofL (waitL T.inn p (m + 1)) ((stP T p m).step - 1) + (l.count - (m + 1)) := q
    have h3 := ofL_le (waitL T.inn p (m + 1)) ((stP T p m).step - 1)
    have h4 : (waitL T.inn p (m + 1)).length ≤ m := by
      rw [waitL, ht.1, if_pos rfl, List.append_nil]
      exact waitL_length _ _ _
    omega
theorem key_old (T : StM) (p : Nat → Bool) (m : Nat) (l : LetM) (dn : Nat) (h2 : T.step = 2) (h1 : l.step = 1) (hm : l.count ≤ m) (hp : p l.count = false) :
    (keyR (stP T p m) l dn).1 = 0 ∧ (keyR (stP T p m) l dn).2.2 = stP T (putP p l.count) m := by
  have e1 : (stP T p m).step = 2 := h2
  have e2 : (stP T p m).got = m + 1 := rfl
  have hf : (stP T p m).kept.find? (isEnt l.step l.count) = some ⟨1, l.count, keyK (chainK T.inn l.count)⟩ := by
    rw [h1]
    show (waitL T.inn p (m + 1)).find? _ = _
    rw [waitL_find, if_pos ⟨by omega, hp⟩]
  rw [keyR, if_neg (by omega), if_neg (by omega), if_neg (by omega), oldR, hf]
  refine ⟨rfl, ?_⟩
  show ({ stP T p m with kept := (stP T p m).kept.filter fun e => !isEnt l.step l.count e } : StM) = _
  rw [h1, old_next]
theorem key_gone (T : StM) (p : Nat → Bool) (m : Nat) (l : LetM) (dn : Nat) (h2 : T.step = 2) (h1 : l.step = 1) (hm : l.count ≤ m) (hp : p l.count = true) : (keyR (stP T p m) l dn).1 = 16 := by
  have e1 : (stP T p m).step = 2 := h2
  have e2 : (stP T p m).got = m + 1 := rfl
  have hf : (stP T p m).kept.find? (isEnt l.step l.count) = none := by
    rw [h1]
    show (waitL T.inn p (m + 1)).find? _ = _
    rw [waitL_find, if_neg (fun q => by rw [hp] at q; simp at q)]
  rw [keyR, if_neg (by omega), if_neg (by omega), if_neg (by omega), oldR, hf]
theorem capS_wait (T : StM) (p : Nat → Bool) (m : Nat) (hc : T.cap = 30) (hm : m ≤ 12) : capS (stP T p m) = stP T p m := by
  apply capS_id
  show (waitL T.inn p (m + 1)).length ≤ T.cap
  have := waitL_length T.inn p (m + 1)
  omega
/-! the disk -/
/-- The disk of the second box when those letters have come that p tells. -/
def OrdD (d0 : List UInt8) (T : StM) (k : Nat) (p : Nat → Bool) (d : List UInt8) : Prop :=
  ((∀ c, p c = false) ∧ d = d0) ∨ ∃ m, m ≤ 12 ∧ topP p m ∧ d = packL (stP T p m) (((List.range 13).filter p).length % 2) (k * 32)
theorem OrdD.det {d0 : List UInt8} {T : StM} {k : Nat} {p : Nat → Bool} {d d' : List UInt8} (h : OrdD d0 T k p d) (h' : OrdD d0 T k p d') : d = d' := by
  rcases h with ⟨a, b⟩ | ⟨m, a, b, c⟩
  · rcases h' with ⟨_, b'⟩ | ⟨m', _, b', _⟩
    · rw [b, b']
    · have := a m'; rw [b'.1] at this; cases this
  · rcases h' with ⟨a', _⟩ | ⟨m', _, b', c'⟩
    · have := a' m; rw [b.1] at this; cases this
    · have hm : m = m' := by
        rcases Nat.lt_trichotomy m m' with q | q | q
        · have := b.2 m' q; rw [b'.1] at this; cases this
        · exact q
        · have := b'.2 m q; rw [b.1] at this; cases this
      subst hm
      rw [c, c']
theorem cnt_put (p : Nat → Bool) (c : Nat) (hp : p c = false) : ∀ n, ((List.range n).filter (putP p c)).length = ((List.range n).filter p).length + if c < n then 1 else 0
  | 0 => rfl
  | n + 1 => by
    rw [List.range_succ, List.filter_append, List.filter_append, List.length_append, List.length_append, cnt_put p c hp n]
    by_cases hn : n = c
    · subst hn
      have e1 : List.filter (putP p n) [n] = [n] := by simp [putP_at]
      have e2 : List.filter p [n] = [] := by simp [hp]
      rw [e1, e2, if_neg (show ¬ n < n by omega), if_pos (show n < n + 1 by omega)]
      rfl
    · have e1 : List.filter (putP p c) [n] = List.filter p [n] := by simp [List.filter_cons, putP_ne p c n hn]
      rw [e1]
      by_cases hcn : c < n
      · rw [if_pos hcn, if_pos (show c < n + 1 by omega)]; omega
      · rw [if_neg hcn, if_neg (show ¬ c < n + 1 by omega)]; omega
theorem recv_live {d : List UInt8} {k : Nat} (h : GoodD d k) (t : List UInt8) (draw : Int) (he : recvErr d t draw = 0) : recvTo d t draw = packL (recvS d t draw) (1 - liveL d) (k * 32) ∧ liveL (recvTo d t draw) = 1 - liveL d := by
  obtain ⟨h0, hs, hl, hr⟩ := recvErr_ok he
  obtain ⟨gl, gk⟩ := good_lawQ h
  have hkl := h.kept
  have hcap := h.cap
  obtain ⟨p1, p2, p3, p4, p5, p6, p7, p8⟩ := letOk_parts hl
  obtain ⟨xl, xk, xc, xn⟩ := recv_law gl gk (by omega) (letOf t) draw.toNat p1 p2 p3 p4 p5 (by rw [sec_nat hs]; exact hs) hr
  have e1 : recvS d t draw = (recvR (heldS d) (letOf t) draw.toNat).2.2 := by rw [recvS]
  rw [← e1] at xl xk xc xn
  have hto : recvTo d t draw = packL (recvS d t draw) (1 - liveL d) (k * 32) := by rw [recvTo, if_pos he, h.len]
  have hlv := h.live
  have hneed := h.need
  obtain ⟨_, _, g3⟩ := good_pack (s := recvS d t draw) (1 - liveL d) k xl xk xn (by omega) (by rw [xc]; exact hneed) h.k2
  exact ⟨hto, by rw [hto]; exact g3⟩
theorem recv_refused {d : List UInt8} {k : Nat} (h : GoodD d k) (n c p x : Nat) (y : List UInt8) (draw e : Int) (hs : Sec draw) (h1 : 1 ≤ n) (hn : n ≤ 29) (hc : c ≤ 49) (hp : p ≤ 50) (hy : 8 ≤ y.length) (hy2 : y.length ≤ 48)
    (hk : (keyR (heldS d) { step := n, count := c, prev := p, pub := pwN 7 x, head := headB n c p (pwN 7 x), body := y } draw.toNat).1 = e) (he : e ≠ 0) : recvErr d (headB n c p (pwN 7 x) ++ y) draw = e := by
  have hx := pwN_lt 7 x
  have hl := letOk_head n c p x y h1 hn hc hp hy hy2
  have e0 := letOf_head n c p (pwN 7 x) y (by omega) (by omega) (by omega) (by omega)
  have er : (recvR (heldS d) (letOf (headB n c p (pwN 7 x) ++ y)) draw.toNat).1 = e := by
    rw [e0, recvR, if_neg (by rw [hk]; exact he), hk]
  rw [recvErr, if_pos (good_open h), if_pos hs, if_pos hl, er]
/-- The second box while the letters of the first step come. -/
def OrdI (r : List UInt8) (a : Nat → Nat) (dn : Nat) (d0 : List UInt8) (T : StM) (k : Nat) (p : Nat → Bool) (d : List UInt8) : Prop :=
  GoodD d k ∧ (((∀ c, p c = false) ∧ d = d0 ∧ BoxI r a (heldS d)) ∨ ∃ m, m ≤ 12 ∧ topP p m ∧ d = packL (stP T p m) (((List.range 13).filter p).length % 2) (k * 32) ∧ heldS d = stP T p m ∧ liveL d = ((List.range 13).filter p).length % 2 ∧ BoxI r (updN a 2 dn) (heldS d))
theorem OrdI.det {r : List UInt8} {a : Nat → Nat} {dn : Nat} {d0 : List UInt8} {T : StM} {k : Nat} {p : Nat → Bool} {d d' : List UInt8} (h : OrdI r a dn d0 T k p d) (h' : OrdI r a dn d0 T k p d') : d = d' := by
  have key : ∀ {x}, OrdI r a dn d0 T k p x → OrdD d0 T k p x := by
    rintro x ⟨_, ⟨q1, q2, _⟩ | ⟨m, q1, q2, q3, _⟩⟩
    · exact .inl ⟨q1, q2⟩
    · exact .inr ⟨m, q1, q2, q3⟩
  exact (key h).det (key h')
theorem ord_ok {r : List UInt8} {x0 x1 : Nat} {d0 : List UInt8} {k : Nat} {p : Nat → Bool} {d : List UInt8} (draw : Int) (hs : Sec draw) (h0 : heldS d0 = newS 1 12 30 0 r x0) (hl0 : liveL d0 = 0)
    (h : OrdI r (a01 x0 x1) draw.toNat d0 (turnS (newS 1 12 30 0 r x0) 1 (pwN 7 x1) draw.toNat) k p d) (c : Nat) (hc : c ≤ 12) (hp : p c = false) (t : List UInt8) (ht : t.length ≤ 40) :
    recvErr d (letB r (a01 x0 x1) 1 c 0 t) draw = 0 ∧ recvTxt d (letB r (a01 x0 x1) 1 c 0 t) draw = t ∧ OrdI r (a01 x0 x1) draw.toNat d0 (turnS (newS 1 12 30 0 r x0) 1 (pwN 7 x1) draw.toNat) k (putP p c) (recvTo d (letB r (a01 x0 x1) 1 c 0 t) draw) := by
  have en : newS 1 12 30 0 r x0 = { role := 1, step := 0, sent := 0, got := 0, prev := 0, skip := 12, cap := 30, root := r, out := noneL, inn := noneL, secret := x0, peer := 0, kept := [] } := by rw [newS, if_pos rfl]
  have hcnt := cnt_put p c hp 13
  rw [if_pos (show c < 13 by omega)] at hcnt
  obtain ⟨hg, h⟩ := h
  rcases h with ⟨hno, hd, hb⟩ | ⟨m, hm, htop, hd, hh, hlv, hb⟩
  · have hpf : p = fun _ => false := funext hno
    have hh : heldS d = newS 1 12 30 0 r x0 := by rw [hd]; exact h0
    have K := key_first (heldS d) { step := 1, count := c, prev := 0, pub := pwN 7 (a01 x0 x1 1), head := headB 1 c 0 (pwN 7 (a01 x0 x1 1)), body := sealL (keyK (chainK (chN r (a01 x0 x1) 1) c)) (headB 1 c 0 (pwN 7 (a01 x0 x1 1))) t } draw.toNat (by rw [hh, en]) (by rw [hh, en]) (by rw [hh, en]) (by rw [hh, en]) rfl hc
    obtain ⟨r1, r2, r3, r4, r5, _⟩ := takes_all hg hb 1 c 0 t draw hs (by omega) (by omega) (by omega) (by omega) ht K.1
    obtain ⟨v1, v2⟩ := recv_live hg _ _ r1
    obtain ⟨_, g2⟩ := recv_good hg _ _ r1
    rw [if_pos (by rw [hh, en])] at r4
    have hst : recvS d (letB r (a01 x0 x1) 1 c 0 t) draw = stP (turnS (newS 1 12 30 0 r x0) 1 (pwN 7 x1) draw.toNat) (putP p c) c := by
      rw [r3, K.2, hh, hpf]
      show capS (dueS (turnS (newS 1 12 30 0 r x0) 1 (pwN 7 x1) draw.toNat) c) = _
      rw [due_first _ c rfl rfl (by rw [en]; rfl), capS_wait _ _ _ (by rw [en]; rfl) hc]
    have hlz : liveL d = 0 := by rw [hd]; exact hl0
    have hz : ((List.range 13).filter p).length = 0 := by rw [hpf]; rfl
    refine ⟨r1, r2, r5, .inr ⟨c, hc, by rw [hpf]; exact topP_first c, ?_, by rw [g2, hst], ?_, r4⟩⟩
    · rw [v1, hst, hlz, hcnt, hz]
    · rw [v2, hlz, hcnt, hz]
  · have hlb : letB r (a01 x0 x1) 1 c 0 t = letB r (updN (a01 x0 x1) 2 draw.toNat) 1 c 0 t := letB_congr _ _ _ _ _ _ _ (fun i hi => (updN_ne _ _ _ i (by omega)).symm)
    rw [hlb]
    unfold OrdI
    have hT2 : (turnS (newS 1 12 30 0 r x0) 1 (pwN 7 x1) draw.toNat).step = 2 := rfl
    have hTs : (turnS (newS 1 12 30 0 r x0) 1 (pwN 7 x1) draw.toNat).skip = 12 := by rw [en]; rfl
    have hTc : (turnS (newS 1 12 30 0 r x0) 1 (pwN 7 x1) draw.toNat).cap = 30 := by rw [en]; rfl
    generalize turnS (newS 1 12 30 0 r x0) 1 (pwN 7 x1) draw.toNat = T at *
    generalize updN (a01 x0 x1) 2 draw.toNat = a2 at *
    have fin : ∀ m', m' ≤ 12 → topP (putP p c) m' → (keyR (heldS d) { step := 1, count := c, prev := 0, pub := pwN 7 (a2 1), head := headB 1 c 0 (pwN 7 (a2 1)), body := sealL (keyK (chainK (chN r a2 1) c)) (headB 1 c 0 (pwN 7 (a2 1))) t } draw.toNat).1 = 0 → (keyR (heldS d) { step := 1, count := c, prev := 0, pub := pwN 7 (a2 1), head := headB 1 c 0 (pwN 7 (a2 1)), body := sealL (keyK (chainK (chN r a2 1) c)) (headB 1 c 0 (pwN 7 (a2 1))) t } draw.toNat).2.2 = stP T (putP p c) m' →
        recvErr d (letB r a2 1 c 0 t) draw = 0 ∧ recvTxt d (letB r a2 1 c 0 t) draw = t ∧ (GoodD (recvTo d (letB r a2 1 c 0 t) draw) k ∧ (((∀ i, putP p c i = false) ∧ recvTo d (letB r a2 1 c 0 t) draw = d0 ∧ BoxI r (a01 x0 x1) (heldS (recvTo d (letB r a2 1 c 0 t) draw))) ∨ ∃ m, m ≤ 12 ∧ topP (putP p c) m ∧ recvTo d (letB r a2 1 c 0 t) draw = packL (stP T (putP p c) m) (((List.range 13).filter (putP p c)).length % 2) (k * 32) ∧ heldS (recvTo d (letB r a2 1 c 0 t) draw) = stP T (putP p c) m ∧ liveL (recvTo d (letB r a2 1 c 0 t) draw) = ((List.range 13).filter (putP p c)).length % 2 ∧ BoxI r a2 (heldS (recvTo d (letB r a2 1 c 0 t) draw)))) := by
      intro m' hm' htop' k1 k2
      obtain ⟨r1, r2, r3, r4, r5, _⟩ := takes_all hg hb 1 c 0 t draw hs (by omega) (by omega) (by omega) (by omega) ht k1
      obtain ⟨v1, v2⟩ := recv_live hg _ _ r1
      obtain ⟨_, g2⟩ := recv_good hg _ _ r1
      have hs2 : (heldS d).step = 2 := by rw [hh]; exact hT2
      rw [if_neg (by omega)] at r4
      have hst : recvS d (letB r a2 1 c 0 t) draw = stP T (putP p c) m' := by rw [r3, k2, capS_wait _ _ _ hTc hm']
      have hpar : 1 - ((List.range 13).filter p).length % 2 = (((List.range 13).filter p).length + 1) % 2 := by omega
      refine ⟨r1, r2, r5, .inr ⟨m', hm', htop', ?_, by rw [g2, hst], ?_, r4⟩⟩
      · rw [v1, hst, hlv, hcnt, hpar]
      · rw [v2, hlv, hcnt, hpar]
    rcases Nat.lt_or_ge m c with q | q
    · have K := key_due T p m { step := 1, count := c, prev := 0, pub := pwN 7 (a2 1), head := headB 1 c 0 (pwN 7 (a2 1)), body := sealL (keyK (chainK (chN r a2 1) c)) (headB 1 c 0 (pwN 7 (a2 1))) t } draw.toNat hT2 hTs htop rfl q hc
      rw [← hh] at K
      refine fin c hc (topP_put_hi htop q) K.1 (K.2.trans ?_)
      rw [hh]
      exact due_next T p m c hT2 htop q
    · have K := key_old T p m { step := 1, count := c, prev := 0, pub := pwN 7 (a2 1), head := headB 1 c 0 (pwN 7 (a2 1)), body := sealL (keyK (chainK (chN r a2 1) c)) (headB 1 c 0 (pwN 7 (a2 1))) t } draw.toNat hT2 rfl q hp
      rw [← hh] at K
      exact fin m hm (topP_put_lo htop q) K.1 K.2
theorem ord_gone {r : List UInt8} {x0 x1 : Nat} {d0 : List UInt8} {k : Nat} {p : Nat → Bool} {d : List UInt8} (draw : Int) (hs : Sec draw)
    (h : OrdI r (a01 x0 x1) draw.toNat d0 (turnS (newS 1 12 30 0 r x0) 1 (pwN 7 x1) draw.toNat) k p d) (c : Nat) (hc : c ≤ 12) (hp : p c = true) (t : List UInt8) (ht : t.length ≤ 40) :
    recvErr d (letB r (a01 x0 x1) 1 c 0 t) draw = 16 := by
  obtain ⟨hg, h⟩ := h
  rcases h with ⟨hno, _, _⟩ | ⟨m, hm, htop, hd, hh, hlv, hb⟩
  · rw [hno c] at hp; cases hp
  · have hT2 : (turnS (newS 1 12 30 0 r x0) 1 (pwN 7 x1) draw.toNat).step = 2 := rfl
    have hcm : c ≤ m := by
      rcases Nat.lt_or_ge m c with q | q
      · rw [htop.2 c q] at hp; cases hp
      · exact q
    refine recv_refused hg 1 c 0 (a01 x0 x1 1) _ draw 16 hs (by omega) (by omega) (by omega) (by omega) (by rw [sealL_length]; omega) (by rw [sealL_length]; omega) ?_ (by decide)
    rw [hh]
    exact key_gone _ p m _ _ hT2 rfl hcm hp
end Go.Proofs.Ytabpkohcimiceab

namespace Go.Proofs.Ytabpkohcimiceab
open Go.RowKit
set_option linter.unusedVariables false
set_option linter.unusedSimpArgs false

/-! ### pawlkeep: given, sorted -/
def IntsAt (w : World) (v : Value) (l : List Int) : Prop := (l = [] ∧ ∃ a c, v = .slice a 0 c) ∨ ∃ b off cap, v = .slice (some ⟨b, off, none⟩) l.length cap ∧ b < w.heap.size ∧ ∀ i, i < l.length → w.cell? ⟨b, off + i, none⟩ = some (.int .i64 (l.getD i 0))
theorem IntsAt.form {w : World} {v : Value} {l : List Int} (h : IntsAt w v l) : ∃ a c, v = .slice a l.length c := by
  rcases h with ⟨h1, a, c, h2⟩ | ⟨b, off, cap, h1, _⟩
  · exact ⟨a, c, by rw [h1, h2]; rfl⟩
  · exact ⟨_, _, h1⟩
theorem IntsAt.only {S : Nat → Prop} {w w' : World} {v : Value} {l : List Int} (h : IntsAt w v l) (ho : Only S w w') (hs : l ≠ [] → ∀ k, v.ownBlock = some k → ¬ S k) : IntsAt w' v l := by
  rcases h with h | ⟨b, off, cap, h1, h2, h3⟩
  · exact .inl h
  · by_cases hne : l = []
    · exact .inl ⟨hne, _, _, by rw [h1, hne]; rfl⟩
    have hb := ho.block b h2 (hs hne b (by rw [h1]; rfl))
    refine .inr ⟨b, off, cap, h1, Nat.lt_of_lt_of_le h2 ho.size, fun i hi => ?_⟩
    have := h3 i hi
    unfold World.cell? at this ⊢
    rw [hb]; exact this
theorem IntsAt.next {w w' : World} {v : Value} {l : List Int} (h : IntsAt w v l) (hb : Below w.heap.size w w') : IntsAt w' v l := h.only (S := fun _ => False) (Only.of_below hb) (fun _ _ _ q => q)
/-- Which letters the raw numbers speak of. -/
def pAll : List Int → Nat → Bool
  | [], _ => false
  | x :: l, c => (pickN x 13).toNat == c || pAll l c
theorem pAll_push (x : Int) (c : Nat) : ∀ l, pAll (l ++ [x]) c = putP (pAll l) (pickN x 13).toNat c
  | [] => by
    show ((pickN x 13).toNat == c || false) = (c == (pickN x 13).toNat || false)
    rw [Bool.beq_comm]
  | y :: l => by
    show ((pickN y 13).toNat == c || pAll (l ++ [x]) c) = (c == (pickN x 13).toNat || ((pickN y 13).toNat == c || pAll l c))
    rw [pAll_push x c l]
    show ((pickN y 13).toNat == c || (c == (pickN x 13).toNat || pAll l c)) = _
    rw [← Bool.or_assoc, ← Bool.or_assoc, Bool.or_comm ((pickN y 13).toNat == c)]
theorem pAll_take (l : List Int) (j : Nat) (h : j < l.length) : pAll (l.take (j + 1)) = putP (pAll (l.take j)) (pickN (l.getD j 0) 13).toNat := by
  funext c
  rw [take_push l 0 j h, pAll_push]
/-- The thirteen letters. -/
def LL (B : Nat → List UInt8) (t : List UInt8) (f : Nat → Bool) (n : Nat) : List LtM := (List.range n).map fun c => ⟨B c, t, 1, 0, 0, 0, f c⟩
theorem LL_length (B : Nat → List UInt8) (t : List UInt8) (f : Nat → Bool) (n : Nat) : (LL B t f n).length = n := by simp [LL]
theorem LL_at (B : Nat → List UInt8) (t : List UInt8) (f : Nat → Bool) (n i : Nat) (h : i < n) : (LL B t f n).getD i ltZ = ⟨B i, t, 1, 0, 0, 0, f i⟩ := by
  rw [List.getD_eq_getElem?_getD, LL, List.getElem?_map, List.getElem?_range h]; rfl
theorem LL_set (B : Nat → List UInt8) (t : List UInt8) (f : Nat → Bool) (n i : Nat) (b : Bool) (h : i < n) : (LL B t f n).set i { (LL B t f n).getD i ltZ with out := b } = LL B t (fun c => if c = i then b else f c) n := by
  rw [LL_at B t f n i h]
  apply List.ext_getElem?
  intro j
  rw [List.getElem?_set]
  by_cases hj : j < n
  · by_cases hij : i = j
    · subst hij
      rw [if_pos rfl, if_pos (by rw [LL_length]; exact hj), LL, List.getElem?_map, List.getElem?_range hj]
      simp
    · rw [if_neg hij, LL, LL, List.getElem?_map, List.getElem?_map, List.getElem?_range hj]
      simp [show j ≠ i from fun e => hij e.symm]
  · have e1 : (LL B t (fun c => if c = i then b else f c) n)[j]? = none := by rw [List.getElem?_eq_none]; rw [LL_length]; omega
    have e2 : (LL B t f n)[j]? = none := by rw [List.getElem?_eq_none]; rw [LL_length]; omega
    rw [e1]
    by_cases hij : i = j
    · omega
    · rw [if_neg hij, e2]
theorem LL_put (B : Nat → List UInt8) (t : List UInt8) (f : Nat → Bool) (n i : Nat) (h : i < n) : (LL B t f n).set i { (LL B t f n).getD i ltZ with out := true } = LL B t (putP f i) n := by
  rw [LL_set B t f n i true h]
  congr 1
  funext c
  by_cases q : c = i
  · rw [if_pos q, q, putP_at]
  · rw [if_neg q, putP_ne f i c q]
theorem ltsC_setB (b : Bool) : ∀ (a : List LtM) (i : Nat), i < a.length → (ltsC a).set (i * 7 + 6) (.bool b) = ltsC (a.set i { a.getD i ltZ with out := b })
  | [], i, h => by simp at h
  | x :: a, 0, _ => rfl
  | x :: a, i + 1, h => by
    rw [List.set_cons_succ, ltsC, ltsC, List.set_append_right _ _ (by simp [ltC]; omega), show (i + 1) * 7 + 6 - (ltC x).length = i * 7 + 6 by simp [ltC]; omega, ltsC_setB b a i (by simp at h; omega)]
    rfl
theorem ownsRow_other {w : World} {base n size : Nat} {e : TypeId} {v : Value} {xs : List Value} (h : w.ownsRow base e size v n xs) {b : Nat} (hb : v.ownBlock ≠ some b) (i : Nat) (x : Value) : (w.setCell ⟨b, i, none⟩ x).ownsRow base e size v n xs :=
  Only.own (S := fun k => k = b) (Only.set (S := fun k => k = b) (Only.refl _ _) rfl x) h (fun k hk q => hb (by rw [← q]; exact hk))
theorem cell_same {w w1 : World} {b : Nat} (h : w1.heap[b]? = w.heap[b]?) (j : Nat) : w1.cell? ⟨b, j, none⟩ = w.cell? ⟨b, j, none⟩ := by
  unfold World.cell?
  rw [h]
theorem LL_congr (B : Nat → List UInt8) (t : List UInt8) (f g : Nat → Bool) (n : Nat) (h : ∀ c, c < n → f c = g c) : LL B t f n = LL B t g n := by
  rw [LL, LL]
  apply List.map_congr_left
  intro c hc
  rw [h c (List.mem_range.1 hc)]

set_option maxRecDepth 100000 in
set_option maxHeartbeats 1000000 in
theorem arrives2_ok (P Q base : Nat) (d dq : ByteArray) (b1 b2 b3 b4 b5 b6 b7 b8 b9 b10 e1 e2 e3 e4 e5 e6 e7 e8 e9 e10 pl : Value) (xv : Option Addr) (xn xc : Nat) (L : List LtM) (i : Nat) (draw : Int) (k : Nat) (w : World) (hP : w.heap[P]? = some (.cells #[.string d, b1, b2, b3, b4, b5, b6, b7, b8, b9, b10, pl] 41)) (hQ : w.heap[Q]? = some (.cells #[.string dq, e1, e2, e3, e4, e5, e6, e7, e8, e9, e10, .slice xv xn xc] 41)) (hrow : w.ownsRow base 63 7 (.slice xv xn xc) L.length (ltsC L)) (hPr : (Value.slice xv xn xc).ownBlock ≠ some P) (hPlt0 : P < w.heap.size) (hQb : Q < base) (hPQ : P ≠ Q) (hbase : base ≤ w.heap.size) (hL : L.length ≤ 100000) (hi : i < L.length) (hbs : (L.getD i ltZ).bytes.length ≤ 1000) (hg : GoodD d.data.toList k) (hout : (L.getD i ltZ).out = false) (hs : Sec draw) (herr : recvErr d.data.toList (L.getD i ltZ).bytes draw = 0) (htxt : recvTxt d.data.toList (L.getD i ltZ).bytes draw = (L.getD i ltZ).text) :
    Calls Try.prog 9 #[.pointer (some ⟨P, 0, none⟩), .pointer (some ⟨Q, 0, none⟩), .int .i64 i, .int .i64 draw] w fun e w' => e = .returned (.bool true) ∧ w'.heap[P]? = some (.cells #[.string (str (recvTo d.data.toList (L.getD i ltZ).bytes draw)), b1, b2, b3, b4, b5, b6, b7, b8, b9, b10, pl] 41) ∧ w'.heap[Q]? = some (.cells #[.string dq, e1, e2, e3, e4, e5, e6, e7, e8, e9, e10, .slice xv xn xc] 41) ∧ w'.ownsRow base 63 7 (.slice xv xn xc) (L.set i { (L.getD i ltZ) with out := true }).length (ltsC (L.set i { (L.getD i ltZ) with out := true })) ∧ Only (fun b => b = P ∨ (Value.slice xv xn xc).ownBlock = some b) w w' := by
  have hds : d.size = k * 32 := by rw [← len_list]; exact hg.len
  have hk2 := hg.k2
  have hdm : d.size ≤ maxLen := by unfold maxLen; omega
  have hbm : (str (L.getD i ltZ).bytes).size ≤ maxLen := by rw [str_size]; unfold maxLen; omega
  obtain ⟨g, cap, hxv, hgb, z0, z1, z2, z6, zf⟩ := ltRow hrow hi
  injection hxv with x1 x2 x3
  subst x1 x2 x3
  have hiL : (i : Int) < (L.length : Int) := by omega
  have hi0 : (0 : Int) ≤ (i : Int) := by omega
  have hgP : g ≠ P := fun e => hPr (by rw [e]; rfl)
  have hgQ : g ≠ Q := by omega
  have hglt : g < w.heap.size := (hrow.lt g rfl).2
  have hPlt : P < w.heap.size := hPlt0
  clear hPr
  have hQlt : Q < w.heap.size := by omega
  have c1 := fun w => pawlReceive_any d (str (L.getD i ltZ).bytes) draw w hdm hbm
  rw [str_toList, herr, htxt] at c1
  obtain ⟨k', hD, hk', hk1', hk2', hto, hpl, r1, r2, r3⟩ := recv_safe _ _ _ herr
  obtain ⟨q1, q2⟩ := recsF_ok _ _ _ _ r1
  have hkk : k' = k := by rw [len_list] at hk'; omega
  subst hkk
  have c3 := fun w => carried_any d (rplR d.data.toList (recvTo d.data.toList (L.getD i ltZ).bytes draw) (heldS d.data.toList).cap (liveL d.data.toList)) k' w hds hk2 q2 q1
  rw [← hpl, r2 []] at c3
  have HSET : Hid ((ltsC L).set (i * 7 + 6) (.bool true) = ltsC (L.set i { (L.getD i ltZ) with out := true }) ∧ (L.set i { (L.getD i ltZ) with out := true }).length = L.length) := ⟨ltsC_set L i hi, List.length_set⟩
  rw [hout] at z6
  have HP : Hid (w.heap[P]? = some (.cells #[.string d, b1, b2, b3, b4, b5, b6, b7, b8, b9, b10, pl] 41)) := hP
  have HQ : Hid (w.heap[Q]? = some (.cells #[.string dq, e1, e2, e3, e4, e5, e6, e7, e8, e9, e10, .slice (some ⟨g, 0, none⟩) L.length xc] 41)) := hQ
  have HROW : Hid (w.ownsRow base 63 7 (.slice (some ⟨g, 0, none⟩) L.length xc) L.length (ltsC L)) := hrow
  have k0 : w.cell? ⟨P, 0, none⟩ = some (.string d) := cell_of_row w _ 0 _ _ _ hP
  have k11 : w.cell? ⟨Q, 11, none⟩ = some (.slice (some ⟨g, 0, none⟩) L.length xc) := cell_of_row w _ 11 _ _ _ hQ
  have HI : Hid (i < L.length) := hi
  generalize ltsC (L.set i { (L.getD i ltZ) with out := true }) = setC at *
  generalize (L.set i { (L.getD i ltZ) with out := true }).length = setN at *
  generalize str (recvTo d.data.toList (L.getD i ltZ).bytes draw) = tt at *
  generalize str (recvPlan d.data.toList (L.getD i ltZ).bytes draw) = pn at *
  generalize str (L.getD i ltZ).bytes = by0 at *
  generalize str (L.getD i ltZ).text = tx at *
  clear hto hpl r1 r2 r3 q1 q2 hD hk' hk1' hk2' herr htxt hg hdm hbm hout hs hP hQ hrow hbs z2
  go_enter Try.func9, Try.ntmps9
  go_upto_region 1 with fail
  go_cut [9, 10, 11] (fun x y z wx => x = .string tx ∧ y = .string pn ∧ z = .int .i64 0 ∧ Below w.heap.size w wx)
  case first =>
    go_region_held3 (fun w' => w'.cell? ⟨P, 0, none⟩ = some (.string d) ∧ w'.cell? ⟨Q, 11, none⟩ = some (.slice (some ⟨g, 0, none⟩) L.length xc) ∧ w'.cell? ⟨g, i * 7, none⟩ = some (.string by0)) (first | (simp [k0, k11, z0]; done) | (simp [g0, g11, gz]; done)) (first | (go_at_call 26; go_must (with_reducible refine (c1 _).mono ?_); rintro e w1 ⟨rfl, hb1⟩; have hb1' : Below w.heap.size w w1 := ⟨hb1.os, hb1.tape, hb1.output, hb1.size, hb1.block⟩; have g0 : w1.cell? ⟨P, 0, none⟩ = some (.string d) := cell_of_row w1 _ 0 _ _ _ ((hb1'.block P hPlt).trans HP.out); have g11 : w1.cell? ⟨Q, 11, none⟩ = some (.slice (some ⟨g, 0, none⟩) L.length xc) := cell_of_row w1 _ 11 _ _ _ ((hb1'.block Q hQlt).trans HQ.out); have gz : w1.cell? ⟨g, i * 7, none⟩ = some (.string by0) := (hb1'.cell (p := ⟨g, i * 7, none⟩) hglt).trans z0))
    all_goals (go_wp2_with fail)
    all_goals go_meet
    all_goals exact ⟨rfl, rfl, rfl, ⟨hb1'.os, hb1'.tape, hb1'.output, hb1'.size, hb1'.block⟩⟩
  case rest =>
    obtain ⟨rfl, rfl, rfl, hb1⟩ := hcut
    have hsz1 := hb1.size
    have hP1 := (hb1.block P hPlt).trans HP.out
    have hQ1 := (hb1.block Q hQlt).trans HQ.out
    have hr1 := ownsRow_below HROW.out hb1
    have HN1 : Hid (Only (fun b => b = P ∨ (Value.slice (some ⟨g, 0, none⟩) L.length xc).ownBlock = some b) w wc) := Only.of_below hb1
    have y0 : wc.cell? ⟨P, 0, none⟩ = some (.string d) := cell_of_row wc _ 0 _ _ _ hP1
    have y11 : wc.cell? ⟨Q, 11, none⟩ = some (.slice (some ⟨g, 0, none⟩) L.length xc) := cell_of_row wc _ 11 _ _ _ hQ1
    have y6 : wc.cell? ⟨g, i * 7 + 6, none⟩ = some (.bool false) := (hb1.cell (p := ⟨g, i * 7 + 6, none⟩) hglt).trans z6
    have y1 : wc.cell? ⟨g, i * 7 + 1, none⟩ = some (.string tx) := (hb1.cell (p := ⟨g, i * 7 + 1, none⟩) hglt).trans z1
    have HP1 : Hid (wc.heap[P]? = some (.cells #[.string d, b1, b2, b3, b4, b5, b6, b7, b8, b9, b10, pl] 41)) := hP1
    have HQ1 : Hid (wc.heap[Q]? = some (.cells #[.string dq, e1, e2, e3, e4, e5, e6, e7, e8, e9, e10, .slice (some ⟨g, 0, none⟩) L.length xc] 41)) := hQ1
    have HR1 : Hid (wc.ownsRow base 63 7 (.slice (some ⟨g, 0, none⟩) L.length xc) L.length (ltsC L)) := hr1
    clear k0 k11 z0 z1 z6 hb1 hP1 hQ1 hr1 c1
    go_upto_region 5 with (first | (go_at_call 25; go_loud (with_reducible refine (c3 _).mono ?_); rintro e w5 ⟨rfl, hb5⟩))
    have hsz5 := hb5.size
    have hP5 := (hb5.block P (by omega)).trans HP1.out
    have hQ5 := (hb5.block Q (by omega)).trans HQ1.out
    have hr5 := ownsRow_below HR1.out hb5
    have HN5 : Hid (Only (fun b => b = P ∨ (Value.slice (some ⟨g, 0, none⟩) L.length xc).ownBlock = some b) w w5) := HN1.out.then hb5
    have u11 : w5.cell? ⟨Q, 11, none⟩ = some (.slice (some ⟨g, 0, none⟩) L.length xc) := cell_of_row w5 _ 11 _ _ _ hQ5
    have u1 : w5.cell? ⟨g, i * 7 + 1, none⟩ = some (.string tx) := (hb5.cell (p := ⟨g, i * 7 + 1, none⟩) (by show g < wc.heap.size; omega)).trans y1
    have u6 : w5.cell? ⟨g, i * 7 + 6, none⟩ = some (.bool false) := (hb5.cell (p := ⟨g, i * 7 + 6, none⟩) (by show g < wc.heap.size; omega)).trans y6
    have fG : ∀ j, w5.frozen? ⟨g, j, none⟩ = false := fun j => hr5.frozenAt j
    have HP5 : Hid (w5.heap[P]? = some (.cells #[.string d, b1, b2, b3, b4, b5, b6, b7, b8, b9, b10, pl] 41)) := hP5
    have HQ5 : Hid (w5.heap[Q]? = some (.cells #[.string dq, e1, e2, e3, e4, e5, e6, e7, e8, e9, e10, .slice (some ⟨g, 0, none⟩) L.length xc] 41)) := hQ5
    have HR5 : Hid (w5.ownsRow base 63 7 (.slice (some ⟨g, 0, none⟩) L.length xc) L.length (ltsC L)) := hr5
    clear y0 y11 y6 y1 hP5 hQ5 hr5 hb5 HP1 HQ1 HR1 HN1 c3
    go_upto_region 8 with fail
    have hP6 : (w5.setCell ⟨g, i * 7 + 6, none⟩ (.bool true)).heap[P]? = some (.cells #[.string d, b1, b2, b3, b4, b5, b6, b7, b8, b9, b10, pl] 41) := (heap_setCell_other _ _ _ _ (by show P ≠ g; omega)).trans HP5.out
    have hQ6 : (w5.setCell ⟨g, i * 7 + 6, none⟩ (.bool true)).heap[Q]? = some (.cells #[.string dq, e1, e2, e3, e4, e5, e6, e7, e8, e9, e10, .slice (some ⟨g, 0, none⟩) L.length xc] 41) := (heap_setCell_other _ _ _ _ (by show Q ≠ g; omega)).trans HQ5.out
    have hR6 : (w5.setCell ⟨g, i * 7 + 6, none⟩ (.bool true)).ownsRow base 63 7 (.slice (some ⟨g, 0, none⟩) L.length xc) L.length ((ltsC L).set (i * 7 + 6) (.bool true)) := (HR5.out.stored _ _).1
    have hN6 : Only (fun b => b = P ∨ (Value.slice (some ⟨g, 0, none⟩) L.length xc).ownBlock = some b) w (w5.setCell ⟨g, i * 7 + 6, none⟩ (.bool true)) := HN5.out.set (b := g) (.inr rfl) _
    clear u11 u1 u6 fG
    generalize (w5.setCell ⟨g, i * 7 + 6, none⟩ (.bool true)) = w6 at hP6 hQ6 hR6 hN6 ⊢
    have v0 : w6.cell? ⟨P, 0, none⟩ = some (.string d) := cell_of_row w6 _ 0 _ _ _ hP6
    have fP : ∀ j, w6.frozen? ⟨P, j, none⟩ = false := fun j => frozen_of_row w6 _ j _ _ hP6
    have HP6 : Hid (w6.heap[P]? = some (.cells #[.string d, b1, b2, b3, b4, b5, b6, b7, b8, b9, b10, pl] 41)) := hP6
    have HQ6 : Hid (w6.heap[Q]? = some (.cells #[.string dq, e1, e2, e3, e4, e5, e6, e7, e8, e9, e10, .slice (some ⟨g, 0, none⟩) L.length xc] 41)) := hQ6
    have HR6 : Hid (w6.ownsRow base 63 7 (.slice (some ⟨g, 0, none⟩) L.length xc) L.length ((ltsC L).set (i * 7 + 6) (.bool true))) := hR6
    have HN6 : Hid (Only (fun b => b = P ∨ (Value.slice (some ⟨g, 0, none⟩) L.length xc).ownBlock = some b) w w6) := hN6
    clear hP6 hQ6 hR6 hN6 HP5 HQ5 HR5 HN5
    go_wp2
    go_ret
    refine ⟨rfl, heap_setCell_same _ _ _ _ _ _ HP6.out, (heap_setCell_other _ _ _ _ (by show Q ≠ P; omega)).trans HQ6.out, ?_, HN6.out.set (b := P) (.inl rfl) _⟩
    rw [← HSET.out.1, HSET.out.2]
    exact ownsRow_other HR6.out (fun e => hgP (by injection e)) _ _

set_option maxRecDepth 100000 in
set_option maxHeartbeats 1000000 in
theorem arrives2_gone (P Q base : Nat) (d dq : ByteArray) (b1 b2 b3 b4 b5 b6 b7 b8 b9 b10 e1 e2 e3 e4 e5 e6 e7 e8 e9 e10 pl : Value) (xv : Option Addr) (xn xc : Nat) (L : List LtM) (i : Nat) (draw : Int) (k : Nat) (w : World) (hP : w.heap[P]? = some (.cells #[.string d, b1, b2, b3, b4, b5, b6, b7, b8, b9, b10, pl] 41)) (hQ : w.heap[Q]? = some (.cells #[.string dq, e1, e2, e3, e4, e5, e6, e7, e8, e9, e10, .slice xv xn xc] 41)) (hrow : w.ownsRow base 63 7 (.slice xv xn xc) L.length (ltsC L)) (hPr : (Value.slice xv xn xc).ownBlock ≠ some P) (hPlt0 : P < w.heap.size) (hQb : Q < base) (hPQ : P ≠ Q) (hbase : base ≤ w.heap.size) (hL : L.length ≤ 100000) (hi : i < L.length) (hbs : (L.getD i ltZ).bytes.length ≤ 1000) (hg : GoodD d.data.toList k) (hout : (L.getD i ltZ).out = true) (herr : recvErr d.data.toList (L.getD i ltZ).bytes draw = 16) :
    Calls Try.prog 9 #[.pointer (some ⟨P, 0, none⟩), .pointer (some ⟨Q, 0, none⟩), .int .i64 i, .int .i64 draw] w fun e w' => e = .returned (.bool true) ∧ Below w.heap.size w w' := by
  have hds : d.size = k * 32 := by rw [← len_list]; exact hg.len
  have hk2 := hg.k2
  have hdm : d.size ≤ maxLen := by unfold maxLen; omega
  have hbm : (str (L.getD i ltZ).bytes).size ≤ maxLen := by rw [str_size]; unfold maxLen; omega
  obtain ⟨g, cap, hxv, hgb, z0, z1, z2, z6, zf⟩ := ltRow hrow hi
  injection hxv with x1 x2 x3
  subst x1 x2 x3
  have hiL : (i : Int) < (L.length : Int) := by omega
  have hi0 : (0 : Int) ≤ (i : Int) := by omega
  have hgP : g ≠ P := fun e => hPr (by rw [e]; rfl)
  have hgQ : g ≠ Q := by omega
  have hglt : g < w.heap.size := (hrow.lt g rfl).2
  have hPlt : P < w.heap.size := hPlt0
  clear hPr
  have hQlt : Q < w.heap.size := by omega
  have c1 := fun w => pawlReceive_any d (str (L.getD i ltZ).bytes) draw w hdm hbm
  have t1 : recvTxt d.data.toList (L.getD i ltZ).bytes draw = [] := by rw [recvTxt, if_neg (by rw [herr]; decide)]
  have t2 : recvPlan d.data.toList (L.getD i ltZ).bytes draw = [] := by rw [recvPlan, if_neg (by rw [herr]; decide)]
  rw [str_toList, herr, t1, t2] at c1
  have c1' : ∀ w, Calls Try.prog 26 #[.string d, .string (str (L.getD i ltZ).bytes), .int .i64 draw] w fun e w' => e = .returned (.tuple #[.string ⟨#[]⟩, .string ⟨#[]⟩, .int .i64 16]) ∧ Below w.heap.size w w' := c1
  rw [hout] at z6
  have HP : Hid (w.heap[P]? = some (.cells #[.string d, b1, b2, b3, b4, b5, b6, b7, b8, b9, b10, pl] 41)) := hP
  have HQ : Hid (w.heap[Q]? = some (.cells #[.string dq, e1, e2, e3, e4, e5, e6, e7, e8, e9, e10, .slice (some ⟨g, 0, none⟩) L.length xc] 41)) := hQ
  have HROW : Hid (w.ownsRow base 63 7 (.slice (some ⟨g, 0, none⟩) L.length xc) L.length (ltsC L)) := hrow
  have k0 : w.cell? ⟨P, 0, none⟩ = some (.string d) := cell_of_row w _ 0 _ _ _ hP
  have k11 : w.cell? ⟨Q, 11, none⟩ = some (.slice (some ⟨g, 0, none⟩) L.length xc) := cell_of_row w _ 11 _ _ _ hQ
  have HI : Hid (i < L.length) := hi
  clear c1 t1 t2
  have c1 := c1'
  clear c1'
  generalize str (L.getD i ltZ).bytes = by0 at *
  generalize str (L.getD i ltZ).text = tx at *
  clear herr hg hdm hbm hout hP hQ hrow hbs z2 z1
  go_enter Try.func9, Try.ntmps9
  go_upto_region 1 with fail
  go_cut [9, 10, 11] (fun x y z wx => x = .string ⟨#[]⟩ ∧ y = .string ⟨#[]⟩ ∧ z = .int .i64 16 ∧ Below w.heap.size w wx)
  case first =>
    go_region_held3 (fun w' => w'.cell? ⟨P, 0, none⟩ = some (.string d) ∧ w'.cell? ⟨Q, 11, none⟩ = some (.slice (some ⟨g, 0, none⟩) L.length xc) ∧ w'.cell? ⟨g, i * 7, none⟩ = some (.string by0)) (first | (simp [k0, k11, z0]; done) | (simp [g0, g11, gz]; done)) (first | (go_at_call 26; go_must (with_reducible refine (c1 _).mono ?_); rintro e w1 ⟨rfl, hb1⟩; have hb1' : Below w.heap.size w w1 := ⟨hb1.os, hb1.tape, hb1.output, hb1.size, hb1.block⟩; have g0 : w1.cell? ⟨P, 0, none⟩ = some (.string d) := cell_of_row w1 _ 0 _ _ _ ((hb1'.block P hPlt).trans HP.out); have g11 : w1.cell? ⟨Q, 11, none⟩ = some (.slice (some ⟨g, 0, none⟩) L.length xc) := cell_of_row w1 _ 11 _ _ _ ((hb1'.block Q hQlt).trans HQ.out); have gz : w1.cell? ⟨g, i * 7, none⟩ = some (.string by0) := (hb1'.cell (p := ⟨g, i * 7, none⟩) hglt).trans z0))
    all_goals (go_wp2_with fail)
    all_goals go_meet
    all_goals exact ⟨rfl, rfl, rfl, ⟨hb1'.os, hb1'.tape, hb1'.output, hb1'.size, hb1'.block⟩⟩
  case rest =>
    obtain ⟨rfl, rfl, rfl, hb1⟩ := hcut
    have y11 : wc.cell? ⟨Q, 11, none⟩ = some (.slice (some ⟨g, 0, none⟩) L.length xc) := cell_of_row wc _ 11 _ _ _ ((hb1.block Q hQlt).trans HQ.out)
    have y6 : wc.cell? ⟨g, i * 7 + 6, none⟩ = some (.bool true) := (hb1.cell (p := ⟨g, i * 7 + 6, none⟩) hglt).trans z6
    have HB : Hid (Below w.heap.size w wc) := hb1
    clear k0 k11 z0 z6 hb1 c1
    go_wp2
    go_ret
    exact ⟨rfl, HB.out⟩


set_option maxRecDepth 100000 in
set_option maxHeartbeats 1000000 in
theorem given_any (P base : Nat) (dp d0 : ByteArray) (b1 b2 b3 b4 b5 b6 b7 b8 b9 b10 : Value) (xv : Option Addr) (xn xc : Nat) (Bf : Nat → List UInt8) (tx : List UInt8) (f : Nat → Bool) (v : Value) (l : List Int) (draw : Int) (k : Nat) (w : World) (hP : w.heap[P]? = some (.cells #[.string dp, b1, b2, b3, b4, b5, b6, b7, b8, b9, b10, .slice xv xn xc] 41)) (hrow : w.ownsRow base 63 7 (.slice xv xn xc) (LL Bf tx f 13).length (ltsC (LL Bf tx f 13))) (hPb : P < base) (hbase : base ≤ w.heap.size) (hv : IntsAt w v l) (hvo : l ≠ [] → ∀ q, v.ownBlock = some q → (Value.slice xv xn xc).ownBlock ≠ some q) (hll : l.length ≤ maxLen) (hlb : ∀ x ∈ l, (-9223372036854775808 ≤ x ∧ x ≤ 9223372036854775807)) (hBl : ∀ c, (Bf c).length ≤ 1000) (hs : Sec draw) (I : (Nat → Bool) → List UInt8 → Prop) (hI0 : I (fun _ => false) d0.data.toList) (hIg : ∀ p d, I p d → GoodD d k) (hIok : ∀ p d c, I p d → c ≤ 12 → p c = false → recvErr d (Bf c) draw = 0 ∧ recvTxt d (Bf c) draw = tx ∧ I (putP p c) (recvTo d (Bf c) draw)) (hIgone : ∀ p d c, I p d → c ≤ 12 → p c = true → recvErr d (Bf c) draw = 16) :
    Calls Try.prog 15 #[.pointer (some ⟨P, 0, none⟩), .string d0, v, .int .i64 draw] w fun e w' => (∃ d : List UInt8, e = .returned (.tuple #[.string (str d), .bool true]) ∧ I (pAll l) d) ∧ w'.heap[P]? = some (.cells #[.string dp, b1, b2, b3, b4, b5, b6, b7, b8, b9, b10, .slice xv xn xc] 41) ∧ (∃ g, w'.ownsRow base 63 7 (.slice xv xn xc) (LL Bf tx g 13).length (ltsC (LL Bf tx g 13))) ∧ Only (fun b => (Value.slice xv xn xc).ownBlock = some b) w w' := by
  obtain ⟨av, ac, hvf⟩ := hv.form
  subst hvf
  have hrl : ∀ g, (LL Bf tx g 13).length = 13 := fun g => LL_length _ _ _ _
  obtain ⟨g, cap, hgv, hgb, _⟩ := ltRow (i := 0) (L := (LL Bf tx f 13)) hrow (by rw [hrl]; omega)
  rw [hrl] at hgv hrow
  injection hgv with y3 y4 y5
  subst y3 y4 y5
  have hglt : g < w.heap.size := (hrow.lt g rfl).2
  have hPlt : P < w.heap.size := by omega
  have hgP : g ≠ P := by omega
  have hgG : g ≠ w.heap.size := by omega
  unfold maxLen at hll
  have HVB : Hid (l ≠ [] → ∀ q, (Value.slice av l.length ac).ownBlock = some q → q < w.heap.size) := by
    intro hne q hq
    rcases hv with ⟨h1, _⟩ | ⟨b, off, cap, h1, h2, _⟩
    · exact absurd h1 hne
    · rw [h1] at hq
      have : b = q := Option.some.inj hq
      omega
  have HIS := hid (And.intro hI0 (And.intro hIg (And.intro hIok hIgone)))
  have HLB := hid hlb
  have HBL := hid hBl
  have HVO := hid hvo
  have HRL := hid hrl
  have HSE := hid hs
  clear hI0 hIg hIok hIgone hlb hBl hvo hs
  go_enter Try.func15, Try.ntmps15
  go_upto_region 2 with fail
  have hG := heap_alloc_new w (.cells #[.string d0, .int .i64 0, .int .i64 0, .int .i64 0, .int .i64 0, .int .i64 0, .int .i64 0, .int .i64 0, .int .i64 0, .int .i64 0, .slice none 0 0, .slice none 0 0] 41)
  have hA : Below w.heap.size w (w.alloc (.cells #[.string d0, .int .i64 0, .int .i64 0, .int .i64 0, .int .i64 0, .int .i64 0, .int .i64 0, .int .i64 0, .int .i64 0, .int .i64 0, .slice none 0 0, .slice none 0 0] 41)) := (Below.refl _ _).alloc (Nat.le_refl _) _
  have hP1 := (hA.block P hPlt).trans hP
  have hr1 := ownsRow_below hrow hA
  have hV1 := hv.next hA
  have hGl : w.heap.size < (w.alloc (.cells #[.string d0, .int .i64 0, .int .i64 0, .int .i64 0, .int .i64 0, .int .i64 0, .int .i64 0, .int .i64 0, .int .i64 0, .int .i64 0, .slice none 0 0, .slice none 0 0] 41)).heap.size := by simp
  generalize (w.alloc (.cells #[.string d0, .int .i64 0, .int .i64 0, .int .i64 0, .int .i64 0, .int .i64 0, .int .i64 0, .int .i64 0, .int .i64 0, .int .i64 0, .slice none 0 0, .slice none 0 0] 41)) = wa at hG hA hP1 hr1 hV1 hGl ⊢
  have HG := hid hG
  have HA := hid hA
  have HP1 := hid hP1
  have HR1 : Hid (wa.ownsRow base 63 7 (.slice (some ⟨g, 0, none⟩) 13 xc) 13 (ltsC (LL Bf tx f 13))) := hr1
  have HV1 := hid hV1
  clear hG hA hP1 hr1 hV1 hP hrow hv
  go_wp2
  go_loopg [11] 100 (fun fu c wr => ∃ j : Nat, c = .int .i64 j ∧ j ≤ 13 ∧ fu + j = 100 ∧ wr.ownsRow base 63 7 (.slice (some ⟨g, 0, none⟩) 13 xc) 13 (ltsC (LL Bf tx (fun c => if c < j then false else f c) 13)) ∧ Only (fun b => (Value.slice (some ⟨g, 0, none⟩) 13 xc).ownBlock = some b) wa wr)
  case atStart => exact ⟨0, rfl, by omega, rfl, by rw [LL_congr Bf tx _ f 13 (fun c _ => by rw [if_neg (by omega)])]; exact HR1.out, Only.refl _ _⟩
  case round =>
    obtain ⟨j, rfl, hj, hfu, hr, hN⟩ := hrel
    have hPr := (hN.block P (by omega) (fun q => hgP (Option.some.inj (show some g = some P from q)))).trans HP1.out
    have k11 : wr.cell? ⟨P, 11, none⟩ = some (.slice (some ⟨g, 0, none⟩) 13 xc) := cell_of_row wr _ 11 _ _ _ hPr
    by_cases hlt : j < 13
    · obtain ⟨g', cap', hv', _, _, _, _, z6, zf⟩ := ltRow (i := j) (L := (LL Bf tx (fun c => if c < j then false else f c) 13)) (by rw [HRL.out]; exact hr) (by rw [HRL.out]; exact hlt)
      rw [HRL.out] at hv'
      injection hv' with v1 v2 v3
      injection v1 with v1
      injection v1 with v1
      subst v1 v3
      have hj13 : (j : Int) < 13 := by omega
      have hj0 : (0 : Int) ≤ (j : Int) := by omega
      have hst := hr.stored (j * 7 + 6) (.bool false)
      have e1 : (ltsC (LL Bf tx (fun c => if c < j then false else f c) 13)).set (j * 7 + 6) (.bool false) = ltsC (LL Bf tx (fun c => if c < j + 1 then false else f c) 13) := by
        rw [ltsC_setB false _ j (by rw [HRL.out]; exact hlt), LL_set Bf tx _ 13 j false hlt]
        congr 1
        apply LL_congr
        intro c hc
        by_cases q : c = j
        · rw [if_pos q, if_pos (by omega)]
        · rw [if_neg q]
          by_cases q2 : c < j
          · rw [if_pos q2, if_pos (by omega)]
          · rw [if_neg q2, if_neg (by omega)]
      rw [e1] at hst
      have HST := hid hst
      have HN := hid hN
      clear hst e1 hr hN hPr
      go_wp2
      go_roundg (gk - 1)
      case measure => omega
      case rel => exact ⟨j + 1, by simp, by omega, by omega, HST.out.1, HN.out.trans (Only.set (S := fun b => (Value.slice (some ⟨g, 0, none⟩) 13 xc).ownBlock = some b) (Only.refl _ _) (b := g) rfl _)⟩
    · obtain rfl : j = 13 := by omega
      have hrF : wr.ownsRow base 63 7 (.slice (some ⟨g, 0, none⟩) 13 xc) 13 (ltsC (LL Bf tx (fun _ => false) 13)) := by
        rw [LL_congr Bf tx (fun _ => false) (fun c => if c < 13 then false else f c) 13 (fun c hc => by rw [if_pos hc])]; exact hr
      have hGr := (hN.block w.heap.size (by omega) (fun q => hgG (Option.some.inj (show some g = some w.heap.size from q)))).trans HG.out
      have hVr := HV1.out.only hN (fun hne q hq h => HVO.out hne q hq h)
      have HRF := hid hrF
      have HGR := hid hGr
      have HVR := hid hVr
      have HPR := hid hPr
      have HNR : Hid (Only (fun b => b = w.heap.size ∨ (Value.slice (some ⟨g, 0, none⟩) 13 xc).ownBlock = some b) wa wr) := hN.mono (fun k _ q => .inr q)
      have hsr := hN.size
      clear hr hrF hGr hVr hN hPr HR1 HV1 HG HP1
      go_wp2
      go_loopg [12, 13] (l.length + 1) (fun fu c x13 wx => ∃ (j : Nat) (d : List UInt8), c = .int .i64 j ∧ j ≤ l.length ∧ fu + j = l.length + 1 ∧ I (pAll (l.take j)) d ∧ wx.heap[w.heap.size]? = some (.cells #[.string (str d), .int .i64 0, .int .i64 0, .int .i64 0, .int .i64 0, .int .i64 0, .int .i64 0, .int .i64 0, .int .i64 0, .int .i64 0, .slice none 0 0, .slice none 0 0] 41) ∧ wx.heap[P]? = some (.cells #[.string dp, b1, b2, b3, b4, b5, b6, b7, b8, b9, b10, .slice (some ⟨g, 0, none⟩) 13 xc] 41) ∧ wx.ownsRow base 63 7 (.slice (some ⟨g, 0, none⟩) 13 xc) 13 (ltsC (LL Bf tx (pAll (l.take j)) 13)) ∧ IntsAt wx (.slice av l.length ac) l ∧ Only (fun b => b = w.heap.size ∨ (Value.slice (some ⟨g, 0, none⟩) 13 xc).ownBlock = some b) wa wx)
      case atStart =>
        refine ⟨0, d0.data.toList, rfl, by omega, by omega, ?_, by rw [str_of]; exact HGR.out, HPR.out, ?_, HVR.out, HNR.out⟩
        · exact HIS.out.1
        · exact HRF.out
      case round =>
        clear HRF HGR HVR HPR HNR k11
        obtain ⟨j, d, rfl, hj, hfu, hI, hGx, hPx, hrx, hVx, hNx⟩ := hrel
        have hsx := hNx.size
        by_cases hlt : j < l.length
        · obtain ⟨ob, off, ocap, hov, hobl, hoc⟩ : ∃ ob off ocap, Value.slice av l.length ac = .slice (some ⟨ob, off, none⟩) l.length ocap ∧ ob < wr.heap.size ∧ wr.cell? ⟨ob, off + j, none⟩ = some (.int .i64 (l.getD j 0)) := by
            rcases hVx with ⟨q, _⟩ | ⟨ob, off, ocap, q1, q2, q3⟩
            · rw [q] at hlt; simp at hlt
            · exact ⟨ob, off, ocap, q1, q2, q3 j hlt⟩
          injection hov with o1 o2 o3
          subst o1 o3
          have hne : l ≠ [] := fun e => by rw [e] at hlt; simp at hlt
          have hobg : ob ≠ g := fun e => HVO.out hne ob rfl (by rw [e]; rfl)
          have hbx := HLB.out (l.getD j 0) (by rw [List.getD_eq_getElem?_getD, List.getElem?_eq_getElem hlt]; exact List.getElem_mem hlt)
          have hpt := pAll_take l j hlt
          generalize l.getD j 0 = ox at *
          have cp := fun w => pick_any ox 13 w hbx.1 hbx.2 (by omega) (by omega)
          obtain ⟨pb0, pb1⟩ := pickN_bd ox 13 (by omega)
          have hobG : ob < w.heap.size := HVB.out hne ob rfl
          obtain ⟨c, hc⟩ := Int.eq_ofNat_of_zero_le pb0
          rw [hc] at cp pb1 hpt
          rw [Int.toNat_natCast] at hpt
          have hc12 : c ≤ 12 := by omega
          have HPT := hid hpt
          obtain ⟨p, hp⟩ : ∃ p, p = pAll (l.take j) := ⟨_, rfl⟩
          rw [← hp] at hI hrx HPT
          clear hp hpt hc pb0
          have hjl : (j : Int) < (l.length : Int) := by omega
          have hj0 : (0 : Int) ≤ (j : Int) := by omega
          have k11 : wr.cell? ⟨P, 11, none⟩ = some (.slice (some ⟨g, 0, none⟩) 13 xc) := cell_of_row wr _ 11 _ _ _ hPx
          have hLc := LL_at Bf tx p 13 c (by omega)
          have hgood := HIS.out.2.1 p d hI
          -- the letter is taken, or it is gone
          have cA : ∃ d', I (putP p c) d' ∧ ∀ w0, Below wr.heap.size wr w0 → Calls Try.prog 9 #[.pointer (some ⟨w.heap.size, 0, none⟩), .pointer (some ⟨P, 0, none⟩), .int .i64 (c : Int), .int .i64 draw] w0 fun e w' => e = .returned (.bool true) ∧ w'.heap[w.heap.size]? = some (.cells #[.string (str d'), .int .i64 0, .int .i64 0, .int .i64 0, .int .i64 0, .int .i64 0, .int .i64 0, .int .i64 0, .int .i64 0, .int .i64 0, .slice none 0 0, .slice none 0 0] 41) ∧ w'.heap[P]? = some (.cells #[.string dp, b1, b2, b3, b4, b5, b6, b7, b8, b9, b10, .slice (some ⟨g, 0, none⟩) 13 xc] 41) ∧ w'.ownsRow base 63 7 (.slice (some ⟨g, 0, none⟩) 13 xc) 13 (ltsC (LL Bf tx (putP p c) 13)) ∧ Only (fun b => b = w.heap.size ∨ (Value.slice (some ⟨g, 0, none⟩) 13 xc).ownBlock = some b) w0 w' := by
            cases hpc : p c with
            | false =>
              obtain ⟨q1, q2, q3⟩ := HIS.out.2.2.1 p d c hI hc12 hpc
              refine ⟨_, q3, fun w0 hb0 => ?_⟩
              have hsz0 := hb0.size
              have := arrives2_ok w.heap.size P base (str d) dp (.int .i64 0) (.int .i64 0) (.int .i64 0) (.int .i64 0) (.int .i64 0) (.int .i64 0) (.int .i64 0) (.int .i64 0) (.int .i64 0) (.slice none 0 0) b1 b2 b3 b4 b5 b6 b7 b8 b9 b10 (.slice none 0 0) (some ⟨g, 0, none⟩) 13 xc (LL Bf tx p 13) c draw k w0 ((hb0.block _ (by omega)).trans hGx) ((hb0.block _ (by omega)).trans hPx) (by rw [HRL.out]; exact ownsRow_below hrx hb0) (fun e => hgG (by injection e)) (by omega) hPb (by omega) (by omega) (by rw [HRL.out]; omega) (by rw [HRL.out]; omega) (by rw [hLc]; exact HBL.out c) (by rw [str_toList]; exact hgood) (by rw [hLc]; exact hpc) HSE.out (by rw [str_toList, hLc]; exact q1) (by rw [str_toList, hLc]; exact q2)
              rw [str_toList, LL_put Bf tx p 13 c (by omega), hLc, HRL.out] at this
              exact this
            | true =>
              have q1 := HIS.out.2.2.2 p d c hI hc12 hpc
              have hpp : putP p c = p := by
                funext i
                by_cases q : i = c
                · rw [q, putP_at, hpc]
                · exact putP_ne p c i q
              rw [hpp]
              refine ⟨d, hI, fun w0 hb0 => ?_⟩
              have hsz0 := hb0.size
              have := arrives2_gone w.heap.size P base (str d) dp (.int .i64 0) (.int .i64 0) (.int .i64 0) (.int .i64 0) (.int .i64 0) (.int .i64 0) (.int .i64 0) (.int .i64 0) (.int .i64 0) (.slice none 0 0) b1 b2 b3 b4 b5 b6 b7 b8 b9 b10 (.slice none 0 0) (some ⟨g, 0, none⟩) 13 xc (LL Bf tx p 13) c draw k w0 ((hb0.block _ (by omega)).trans hGx) ((hb0.block _ (by omega)).trans hPx) (by rw [HRL.out]; exact ownsRow_below hrx hb0) (fun e => hgG (by injection e)) (by omega) hPb (by omega) (by omega) (by rw [HRL.out]; omega) (by rw [HRL.out]; omega) (by rw [hLc]; exact HBL.out c) (by rw [str_toList]; exact hgood) (by rw [hLc]; exact hpc) (by rw [str_toList, hLc]; exact q1)
              refine this.mono ?_
              rintro e w' ⟨he, hb⟩
              have hbb := below_tr hb0 hb
              exact ⟨he, (hbb.block _ (by omega)).trans hGx, (hbb.block _ (by omega)).trans hPx, ownsRow_below hrx hbb, Only.of_below hb⟩
          obtain ⟨d', hI', cA⟩ := cA
          have HI' := hid hI'
          have HVX := hid hVx
          have HNX := hid hNx
          clear hI hGx hPx hrx hVx hNx hgood hLc hI' hbx
          go_upto_region 9 with fail
          go_cut [13] (fun x wx => x = .bool true ∧ wx.heap[w.heap.size]? = some (.cells #[.string (str d'), .int .i64 0, .int .i64 0, .int .i64 0, .int .i64 0, .int .i64 0, .int .i64 0, .int .i64 0, .int .i64 0, .int .i64 0, .slice none 0 0, .slice none 0 0] 41) ∧ wx.heap[P]? = some (.cells #[.string dp, b1, b2, b3, b4, b5, b6, b7, b8, b9, b10, .slice (some ⟨g, 0, none⟩) 13 xc] 41) ∧ wx.ownsRow base 63 7 (.slice (some ⟨g, 0, none⟩) 13 xc) 13 (ltsC (LL Bf tx (putP p c) 13)) ∧ Only (fun b => b = w.heap.size ∨ (Value.slice (some ⟨g, 0, none⟩) 13 xc).ownBlock = some b) wr wx)
          case first =>
            go_region_held3 (fun w' => w'.cell? ⟨P, 11, none⟩ = some (.slice (some ⟨g, 0, none⟩) 13 xc) ∧ w'.cell? ⟨ob, off + j, none⟩ = some (.int .i64 ox)) (first | (simp [k11, hoc]; done) | (simp [u11, uoc]; done)) (first | (go_at_call 12; go_must (with_reducible refine (cp _).mono ?_); rintro e w' ⟨rfl, hw⟩; rw [hw]; clear hw w') | (go_at_call 9; go_must (with_reducible refine (cA _ (by first | exact (Below.refl _ _).drew | exact Below.refl _ _)).mono ?_); rintro e w1 ⟨rfl, hG1, hP1, hr1, hN1⟩; have u11 : w1.cell? ⟨P, 11, none⟩ = some (.slice (some ⟨g, 0, none⟩) 13 xc) := cell_of_row w1 _ 11 _ _ _ hP1; have uoc : w1.cell? ⟨ob, off + j, none⟩ = some (.int .i64 ox) := (cell_same (hN1.block ob (by exact hobl) (fun q => by rcases q with q | q; omega; exact hobg (Option.some.inj (show some g = some ob from q)).symm)) _).trans hoc))
            all_goals (go_wp2_with fail)
            all_goals go_meet
            all_goals exact ⟨rfl, hG1, hP1, hr1, ⟨hN1.os, hN1.tape, hN1.output, hN1.size, hN1.block⟩⟩
          case rest =>
            obtain ⟨rfl, hG1, hP1, hr1, hN1⟩ := hcut
            have hV1 := HVX.out.only hN1 (fun hne q hq h => by rcases h with h | h; (have := HVB.out hne q hq; omega); exact HVO.out hne q hq h)
            have HALL := hid (And.intro hG1 (And.intro hP1 (And.intro hr1 (And.intro hV1 (HNX.out.trans hN1)))))
            clear hG1 hP1 hr1 hV1 hN1 cA cp k11 hoc HVX HNX
            go_wp2
            go_roundg (gk - 1)
            case measure => omega
            case rel => exact ⟨j + 1, d', by simp, by omega, by omega, by rw [HPT.out]; exact HI'.out, HALL.out.1, HALL.out.2.1, by rw [HPT.out]; exact HALL.out.2.2.1, HALL.out.2.2.2.1, HALL.out.2.2.2.2⟩
        · obtain rfl : j = l.length := by omega
          rw [List.take_length] at hI hrx
          have u0 : wr.cell? ⟨w.heap.size, 0, none⟩ = some (.string (str d)) := cell_of_row wr _ 0 _ _ _ hGx
          have HI' := hid hI
          have HPX := hid hPx
          have HRX := hid hrx
          have HNX := hid hNx
          clear hI hGx hPx hrx hVx hNx
          go_wp2
          go_ret2
          refine ⟨⟨d, rfl, HI'.out⟩, HPX.out, ⟨pAll l, by rw [HRL.out]; exact HRX.out⟩, ?_⟩
          have h1 : Only (fun b => (Value.slice (some ⟨g, 0, none⟩) 13 xc).ownBlock = some b) w wa := Only.of_below HA.out
          refine ⟨HNX.out.os.trans h1.os, HNX.out.tape.trans h1.tape, HNX.out.output.trans h1.output, Nat.le_trans h1.size HNX.out.size, fun b hb hs => (HNX.out.block b (by have := h1.size; omega) (fun q => ?_)).trans (h1.block b hb hs)⟩
          rcases q with q | q
          · omega
          · exact hs q
end Go.Proofs.Ytabpkohcimiceab

namespace Go.Proofs.Ytabpkohcimiceab
open Go.RowKit
set_option linter.unusedVariables false
set_option linter.unusedSimpArgs false

/-! ### pawlkeep: sorted, Orders -/
theorem Try.infoInt : (Try.prog.info? 3).map (fun i => (i.zero, i.size, i.bytes)) = some (some (.int .i64 0), 1, 8) := by kernel_rfl
def intC (l : List Int) : List Value := l.map fun x => .int .i64 x
def sortN (l : List Int) (n : Nat) : List Int := ((List.range n).filter (pAll l)).map fun c : Nat => (c : Int)
theorem sortN_succ (l : List Int) (n : Nat) : sortN l (n + 1) = sortN l n ++ if pAll l n = true then [(n : Int)] else [] := by
  rw [sortN, List.range_succ, List.filter_append, List.map_append, sortN, List.filter_cons, List.filter_nil]
  split <;> rfl
theorem sortN_length (l : List Int) (n : Nat) : (sortN l n).length ≤ n := by
  rw [sortN, List.length_map]
  have := List.length_filter_le (pAll l) (List.range n)
  rw [List.length_range] at this
  exact this
theorem sortN_mem (l : List Int) (n : Nat) (x : Int) (h : x ∈ sortN l n) : ∃ c, c < n ∧ pAll l c = true ∧ x = (c : Int) := by
  rw [sortN, List.mem_map] at h
  obtain ⟨c, hc, rfl⟩ := h
  rw [List.mem_filter, List.mem_range] at hc
  exact ⟨c, hc.1, hc.2, rfl⟩
theorem pAll_iff (c : Nat) : ∀ l, pAll l c = true ↔ ∃ x ∈ l, (pickN x 13).toNat = c
  | [] => by simp [pAll]
  | y :: l => by
    rw [pAll, Bool.or_eq_true, pAll_iff c l, beq_iff_eq]
    simp
theorem pick_small (c : Nat) (h : c < 13) : (pickN (c : Int) 13).toNat = c := by
  unfold pickN
  rw [if_neg (by omega)]
  omega
theorem pAll_lt (l : List Int) (c : Nat) (h : pAll l c = true) : c < 13 := by
  obtain ⟨x, _, hx⟩ := (pAll_iff c l).1 h
  have := pickN_bd x 13 (by omega)
  omega
theorem pAll_sort (l : List Int) : pAll (sortN l 13) = pAll l := by
  funext c
  have key : pAll (sortN l 13) c = true ↔ pAll l c = true := by
    rw [pAll_iff]
    constructor
    · rintro ⟨x, hx, hc⟩
      obtain ⟨i, hi, hp, rfl⟩ := sortN_mem l 13 x hx
      rw [pick_small i hi] at hc
      rw [← hc]; exact hp
    · intro h
      refine ⟨(c : Int), ?_, pick_small c (pAll_lt l c h)⟩
      rw [sortN, List.mem_map]
      exact ⟨c, List.mem_filter.2 ⟨List.mem_range.2 (pAll_lt l c h), h⟩, rfl⟩
  cases h1 : pAll (sortN l 13) c <;> cases h2 : pAll l c <;> simp_all
theorem intsOwn {w : World} {base : Nat} {v : Value} {l : List Int} (h : w.ownsRow base 3 1 v l.length (intC l)) : IntsAt w v l := by
  rcases h.2 with ⟨h1, h2⟩ | ⟨g, cap, cur, h1, h2, h3, h4⟩
  · exact .inl ⟨List.length_eq_zero_iff.1 h2, none, 0, h1⟩
  · subst h1
    refine .inr ⟨g, 0, cap, rfl, (h.lt g rfl).2, fun i hi => ?_⟩
    rw [Nat.zero_add, h.cellAt i (by omega), intC, List.getElem?_map, List.getD_eq_getElem?_getD, List.getElem?_eq_getElem hi]
    rfl

set_option maxRecDepth 100000 in
set_option maxHeartbeats 1000000 in
theorem sorted_any (v : Value) (l : List Int) (w : World) (hv : IntsAt w v l) (hll : l.length ≤ maxLen) (hlb : ∀ x ∈ l, (-9223372036854775808 ≤ x ∧ x ≤ 9223372036854775807)) :
    Calls Try.prog 16 #[v] w fun e w' => (∃ (yv : Option Addr) (yn yc : Nat), e = .returned (.slice yv yn yc) ∧ w'.ownsRow w.heap.size 3 1 (.slice yv yn yc) (sortN l 13).length (intC (sortN l 13))) ∧ Below w.heap.size w w' := by
  obtain ⟨i0, hi0, hz0, hz1, hz2⟩ := info_parts Try.infoInt
  obtain ⟨av, ac, hvf⟩ := hv.form
  subst hvf
  unfold maxLen at hll
  have HV := hid hv
  have HLB := hid hlb
  clear hv hlb
  go_enter Try.func16, Try.ntmps16
  go_wp2
  go_loopg [3, 4, 5, 6] 100 (fun fu v3 c x5 x6 wr => ∃ (n : Nat) (yv : Option Addr) (yn yc : Nat), v3 = .slice yv yn yc ∧ c = .int .i64 n ∧ n ≤ 13 ∧ fu + n = 100 ∧ wr.ownsRow w.heap.size 3 1 (.slice yv yn yc) (sortN l n).length (intC (sortN l n)) ∧ Below w.heap.size w wr)
  case atStart => exact ⟨0, none, 0, 0, rfl, rfl, by omega, rfl, World.ownsRow_nil _ _ _ _, Below.refl _ _⟩
  case round =>
    obtain ⟨n, yv, yn, yc, rfl, rfl, hn, hfu, hown, hb⟩ := hrel
    by_cases hlt : n < 13
    · have hn13 : (n : Int) < 13 := by omega
      have HO := hid hown
      have HB := hid hb
      clear hown hb
      go_wp2
      go_loopg [5, 6] (l.length + 1) (fun fu x5 c wx => ∃ i : Nat, c = .int .i64 i ∧ i ≤ l.length ∧ fu + i = l.length + 1 ∧ x5 = .bool (pAll (l.take i) n) ∧ wx.ownsRow w.heap.size 3 1 (.slice yv yn yc) (sortN l n).length (intC (sortN l n)) ∧ Below w.heap.size w wx)
      case atStart => exact ⟨0, rfl, by omega, by omega, rfl, HO.out, HB.out⟩
      case round =>
        clear HO HB
        obtain ⟨i, rfl, hi, hfu2, rfl, hown, hb⟩ := hrel
        by_cases hil : i < l.length
        · have hV := HV.out.next hb
          obtain ⟨ob, off, ocap, hov, hoc⟩ : ∃ ob off ocap, Value.slice av l.length ac = .slice (some ⟨ob, off, none⟩) l.length ocap ∧ wr.cell? ⟨ob, off + i, none⟩ = some (.int .i64 (l.getD i 0)) := by
            rcases hV with ⟨q, _⟩ | ⟨ob, off, ocap, q1, q2, q3⟩
            · rw [q] at hil; simp at hil
            · exact ⟨ob, off, ocap, q1, q3 i hil⟩
          injection hov with o1 o2 o3
          subst o1 o3
          have hbx := HLB.out (l.getD i 0) (by rw [List.getD_eq_getElem?_getD, List.getElem?_eq_getElem hil]; exact List.getElem_mem hil)
          have hpt : pAll (l.take (i + 1)) n = putP (pAll (l.take i)) (pickN (l.getD i 0) 13).toNat n := by rw [pAll_take l i hil]
          generalize l.getD i 0 = ox at *
          have cp := fun w => pick_any ox 13 w hbx.1 hbx.2 (by omega) (by omega)
          obtain ⟨pb0, pb1⟩ := pickN_bd ox 13 (by omega)
          obtain ⟨c, hc⟩ := Int.eq_ofNat_of_zero_le pb0
          rw [hc] at cp hpt
          rw [Int.toNat_natCast] at hpt
          have hjl : (i : Int) < (l.length : Int) := by omega
          have hj0 : (0 : Int) ≤ (i : Int) := by omega
          have HO := hid hown
          have HB := hid hb
          clear hown hb hV hbx hc pb0 pb1
          by_cases hcn : c = n
          · have e1 : ((c : Int) == (n : Int)) = true := by rw [hcn]; simp
            have HPT : Hid (pAll (l.take (i + 1)) n = true) := by
              show _ = _
              rw [hpt, hcn, putP_at]
            clear hpt hcn
            go_wp2_with (first | (go_at_call 12; go_must (with_reducible refine (cp _).mono ?_); rintro e w' ⟨rfl, hw⟩; rw [hw]; clear hw w'))
            go_roundg (gk - 1)
            case measure => omega
            case rel => exact ⟨i + 1, by simp, by omega, by omega, by rw [HPT.out], HO.out, HB.out⟩
          · have e0 : ¬ (c : Int) = (n : Int) := by omega
            have e1 : ((c : Int) == (n : Int)) = false := by rw [beq_eq_false_iff_ne]; exact e0
            have HPT : Hid (pAll (l.take (i + 1)) n = pAll (l.take i) n) := by
              show _ = _
              rw [hpt, putP_ne _ _ _ (fun e => hcn e.symm)]
            generalize pAll (l.take i) n = bb at *
            clear hpt hcn
            go_wp2_with (first | (go_at_call 12; go_must (with_reducible refine (cp _).mono ?_); rintro e w' ⟨rfl, hw⟩; rw [hw]; clear hw w'))
            go_roundg (gk - 1)
            case measure => omega
            case rel => exact ⟨i + 1, by simp, by omega, by omega, by rw [HPT.out], HO.out, HB.out⟩
        · obtain rfl : i = l.length := by omega
          rw [List.take_length]
          have hs := sortN_succ l n
          have hsl := sortN_length l n
          have hsz := hb.size
          have HB := hid hb
          clear hb
          cases hq : pAll l n with
          | true =>
            rw [hq, if_pos rfl] at hs
            have HS := hid hs
            clear hs hq
            have hjl : ¬ (l.length : Int) < (l.length : Int) := by omega
            go_wp2_with (first | (at_builtin; go_loud (refine wpList_append_lies _ rfl (.tmp 25) (.tmp 27) _ rfl w.heap.size 3 i0 _ 1 8 Try.underlying47 hi0 hz0 hz1 hz2 rfl (by omega) _ (sortN l n).length (intC (sortN l n)) rfl (hown.alloc _) ⟨wr.heap.size, 0, none⟩ 1 1 [.int .i64 (n : Int)] rfl rfl (World.news_of_block (cs := #[.int .i64 (n : Int)]) (t := 3) (fr := (0, 0)) (heap_alloc_new _ _)) (by simp [Value.oneCell']) (by omega) (by unfold maxLen; omega) (by omega) (by simp; omega) (wr.heap.size + 1) (by simp) ?_); intro g2 cap2 w3 hown2 hgrow hat hlt2))
            go_roundg (100 - (n + 1))
            case measure => omega
            case rel =>
              refine ⟨n + 1, _, _, _, rfl, by simp, by omega, by omega, ?_, ?_⟩
              · rw [HS.out, List.length_append, intC, List.map_append]; exact hown2
              · exact grown_below (HB.out.alloc hsz _) (hown.alloc _) hgrow
          | false =>
            rw [hq, if_neg (by simp), List.append_nil] at hs
            have HS := hid hs
            have HO := hid hown
            clear hs hq hown
            have hjl : ¬ (l.length : Int) < (l.length : Int) := by omega
            go_wp2
            go_roundg (100 - (n + 1))
            case measure => omega
            case rel => exact ⟨n + 1, _, _, _, rfl, by simp, by omega, by omega, by rw [HS.out]; exact HO.out, HB.out⟩
    · obtain rfl : n = 13 := by omega
      have HO := hid hown
      have HB := hid hb
      clear hown hb
      go_wp2
      go_ret
      exact ⟨⟨yv, yn, yc, rfl, HO.out⟩, HB.out⟩
end Go.Proofs.Ytabpkohcimiceab

namespace Go.Proofs.Ytabpkohcimiceab
open Go.RowKit
set_option linter.unusedVariables false
set_option linter.unusedSimpArgs false

/-! ### pawlkeep.Orders -/
theorem LL_succ (B : Nat → List UInt8) (t : List UInt8) (f : Nat → Bool) (n : Nat) : LL B t f (n + 1) = LL B t f n ++ [⟨B n, t, 1, 0, 0, 0, f n⟩] := by
  rw [LL, List.range_succ, List.map_append]; rfl
theorem ofStepN_LL (B : Nat → List UInt8) (t : List UInt8) (f : Nat → Bool) (n : Nat) : ofStepN (LL B t f n) 1 ≤ n := by
  have := List.length_filter_le (fun x : LtM => x.step == 1) (LL B t f n)
  rw [LL_length] at this
  exact this

set_option maxRecDepth 100000 in
set_option maxHeartbeats 1000000 in
theorem orders_go (u0 u1 u2 u3 u4 u5 u6 : Int) (u7 : ByteArray) (a : ByteArray) (v : Value) (l : List Int) (draw : Int) (w : World) (h0 : (-9223372036854775808 ≤ u0 ∧ u0 ≤ 9223372036854775807)) (h1 : (-9223372036854775808 ≤ u1 ∧ u1 ≤ 9223372036854775807)) (h2 : (-9223372036854775808 ≤ u2 ∧ u2 ≤ 9223372036854775807)) (h3 : (-9223372036854775808 ≤ u3 ∧ u3 ≤ 9223372036854775807)) (h4 : (-9223372036854775808 ≤ u4 ∧ u4 ≤ 9223372036854775807)) (h5 : (-9223372036854775808 ≤ u5 ∧ u5 ≤ 9223372036854775807)) (h6 : (-9223372036854775808 ≤ u6 ∧ u6 ≤ 9223372036854775807)) (h7 : u7.size ≤ maxLen) (ha : a.size ≤ maxLen) (hv : IntsAt w v l) (hll : l.length ≤ maxLen) (hlb : ∀ x ∈ l, (-9223372036854775808 ≤ x ∧ x ≤ 9223372036854775807)) (hd : (-9223372036854775808 ≤ draw ∧ draw ≤ 9223372036854775807)) :
    Calls Try.prog 5 #[.agg #[.int .i64 u0, .int .i64 u1, .int .i64 u2, .int .i64 u3, .int .i64 u4, .int .i64 u5, .int .i64 u6, .string u7], .string a, v, .int .i64 draw] w fun e w' => e = .returned (.bool true) ∧ Below w.heap.size w w' := by
  obtain ⟨cp0, cp1⟩ := pickN_bd u1 31 (by omega)
  obtain ⟨ca, hca⟩ := Int.eq_ofNat_of_zero_le cp0
  have hcb : pickN 30 31 = ((30 : Nat) : Int) := by decide
  have hp12 : pickN 12 13 = 12 := by decide
  obtain ⟨ha1, ha2⟩ := creA_ok u0 u1 12 30 u4 u5 u6 u7 ca hca
  obtain ⟨hb1, hb2⟩ := creB_ok u0 u1 12 30 u4 u5 u6 u7 30 hcb
  have c3 := fun w => begun_any u0 u1 12 30 u4 u5 u6 u7 ca 30 w h0 h1 (by omega) (by omega) h4 h5 h6 h7 hca hcb
  have c4 := fun w => secretOf_any draw w hd.1 hd.2
  obtain ⟨ka, gA, eA⟩ := madeA_good u0 u4 u5 u6 u7.data.toList ca ha1 ha2
  obtain ⟨kb, gB, eB⟩ := madeB_good 12 u5 u6 u7.data.toList 30 hb1 hb2
  have hlB : liveL (creTo (List.replicate (blankK 30 u6 * 32) (0 : UInt8)) 1 (pickN 12 13) ((30 : Nat) : Int) 0 (sizedL u7.data.toList 8) (secN u5)) = 0 := by
    have hs5 := secN_sec u5
    unfold Sec at hs5
    have hlaw := newS_lawful 1 12 30 0 (secN u5).toNat (sizedL u7.data.toList 8) (by omega) (by omega) (by omega) (by unfold Sec; omega) (fun q => by omega)
    have hok := newS_ok 1 12 30 0 (secN u5).toNat (sizedL u7.data.toList 8) (by omega) (by omega) (sizedL_length _ _) (by omega) (by omega)
    obtain ⟨l1, l2⟩ := (law_iff _).1 hlaw
    obtain ⟨rm0, rm1⟩ := pickN_bd u6 4 (by omega)
    obtain ⟨hh1, hh2, _⟩ := halfN_le 30 (by omega)
    have hbk : blankK 30 u6 = 1 + 2 * halfN 30 + (pickN u6 4).toNat := rfl
    obtain ⟨_, _, g3⟩ := good_pack (s := newS 1 12 30 0 (sizedL u7.data.toList 8) (secN u5).toNat) 0 (blankK 30 u6) l1 hok.keyed l2 (by omega) (by rw [newS_cap]; omega) (by omega)
    rw [creTo, if_pos hb2, List.length_replicate, hp12]
    exact g3
  rw [hp12] at eB hlB gB c3
  have hsd := secN_sec draw
  generalize (creTo (List.replicate (blankK ca u6 * 32) (0 : UInt8)) 0 (pickN u0 13) (ca : Int) (shOut (secN u5) 7) (sizedL u7.data.toList 8) (secN u4)) = da at *
  generalize (creTo (List.replicate (blankK 30 u6 * 32) (0 : UInt8)) 1 12 ((30 : Nat) : Int) 0 (sizedL u7.data.toList 8) (secN u5)) = db at *
  have iA := newA_fits (sizedL u7.data.toList 8) (pickN u0 13).toNat ca (secN u5).toNat (secN u4).toNat
  have iB := newB_fits (sizedL u7.data.toList 8) 12 30 (secN u5).toNat (secN u4).toNat
  have sA : (heldS da).step = 1 ∧ (heldS da).sent = 0 ∧ (heldS da).prev = 0 := by rw [eA, newS, if_neg (by omega)]; exact ⟨rfl, rfl, rfl⟩
  rw [← eA] at iA
  have eB' : heldS db = newS 1 12 30 0 (sizedL u7.data.toList 8) (secN u5).toNat := eB
  rw [← eB'] at iB
  have l40 : (a.data.toList.take 40).length ≤ 40 := by rw [List.length_take]; omega
  -- what is asked of the letters
  have hI0 : (OrdI (sizedL u7.data.toList 8) (a01 (secN u5).toNat (secN u4).toNat) (secN draw).toNat db (turnS (newS 1 12 30 0 (sizedL u7.data.toList 8) (secN u5).toNat) 1 (pwN 7 (secN u4).toNat) (secN draw).toNat) kb) (fun _ => false) (str db).data.toList := by
    rw [str_toList]
    exact ⟨gB, .inl ⟨fun _ => rfl, rfl, iB⟩⟩
  have hIg : ∀ p d, (OrdI (sizedL u7.data.toList 8) (a01 (secN u5).toNat (secN u4).toNat) (secN draw).toNat db (turnS (newS 1 12 30 0 (sizedL u7.data.toList 8) (secN u5).toNat) 1 (pwN 7 (secN u4).toNat) (secN draw).toNat) kb) p d → GoodD d kb := fun p d h => h.1
  have hIok : ∀ p d c, (OrdI (sizedL u7.data.toList 8) (a01 (secN u5).toNat (secN u4).toNat) (secN draw).toNat db (turnS (newS 1 12 30 0 (sizedL u7.data.toList 8) (secN u5).toNat) 1 (pwN 7 (secN u4).toNat) (secN draw).toNat) kb) p d → c ≤ 12 → p c = false → recvErr d ((fun c => letB (sizedL u7.data.toList 8) (a01 (secN u5).toNat (secN u4).toNat) 1 c 0 (a.data.toList.take 40)) c) (secN draw) = 0 ∧ recvTxt d ((fun c => letB (sizedL u7.data.toList 8) (a01 (secN u5).toNat (secN u4).toNat) 1 c 0 (a.data.toList.take 40)) c) (secN draw) = (a.data.toList.take 40) ∧ (OrdI (sizedL u7.data.toList 8) (a01 (secN u5).toNat (secN u4).toNat) (secN draw).toNat db (turnS (newS 1 12 30 0 (sizedL u7.data.toList 8) (secN u5).toNat) 1 (pwN 7 (secN u4).toNat) (secN draw).toNat) kb) (putP p c) (recvTo d ((fun c => letB (sizedL u7.data.toList 8) (a01 (secN u5).toNat (secN u4).toNat) 1 c 0 (a.data.toList.take 40)) c) (secN draw)) := fun p d c h hc hp => ord_ok (secN draw) hsd eB' hlB h c hc hp (a.data.toList.take 40) l40
  have hIgone : ∀ p d c, (OrdI (sizedL u7.data.toList 8) (a01 (secN u5).toNat (secN u4).toNat) (secN draw).toNat db (turnS (newS 1 12 30 0 (sizedL u7.data.toList 8) (secN u5).toNat) 1 (pwN 7 (secN u4).toNat) (secN draw).toNat) kb) p d → c ≤ 12 → p c = true → recvErr d ((fun c => letB (sizedL u7.data.toList 8) (a01 (secN u5).toNat (secN u4).toNat) 1 c 0 (a.data.toList.take 40)) c) (secN draw) = 16 := fun p d c h hc hp => ord_gone (secN draw) hsd h c hc hp (a.data.toList.take 40) l40
  have hBl : ∀ c, ((fun c => letB (sizedL u7.data.toList 8) (a01 (secN u5).toNat (secN u4).toNat) 1 c 0 (a.data.toList.take 40)) c).length ≤ 1000 := fun c => by
    show (letB (sizedL u7.data.toList 8) (a01 (secN u5).toNat (secN u4).toNat) 1 c 0 (a.data.toList.take 40)).length ≤ 1000
    rw [letB_length]; omega
  have HSEM := hid (And.intro hI0 (And.intro hIg (And.intro hIok (And.intro hIgone hBl))))
  have HSTART := hid (And.intro gA (And.intro iA sA))
  generalize pickN u0 13 = sa at *
  clear hI0 hIg hIok hIgone hBl gA iA sA gB iB eA eB eB' hlB hca hcb hp12 ha1 ha2 hb1 hb2
  have HLB := hid hlb
  have HV := hid hv
  have HVB : Hid (l ≠ [] → ∀ q, v.ownBlock = some q → q < w.heap.size) := by
    intro hne q hq
    rcases hv with ⟨h1, _⟩ | ⟨b, off, cap, h1, h2, _⟩
    · exact absurd h1 hne
    · rw [h1] at hq
      have : b = q := Option.some.inj hq
      omega
  obtain ⟨av, ac, hvf⟩ := hv.form
  subst hvf
  clear hlb hv
  go_enter Try.func5, Try.ntmps5
  go_upto_region 3 with fail
  have hS := heap_alloc_new w (.cells #[.int .i64 u0, .int .i64 u1, .int .i64 12, .int .i64 30, .int .i64 u4, .int .i64 u5, .int .i64 u6, .string u7] 23)
  have hW : Below w.heap.size w (w.alloc (.cells #[.int .i64 u0, .int .i64 u1, .int .i64 12, .int .i64 30, .int .i64 u4, .int .i64 u5, .int .i64 u6, .string u7] 23)) := (Below.refl _ _).alloc (Nat.le_refl _) _
  generalize (w.alloc (.cells #[.int .i64 u0, .int .i64 u1, .int .i64 12, .int .i64 30, .int .i64 u4, .int .i64 u5, .int .i64 u6, .string u7] 23)) = wa at hS hW ⊢
  have HW := hid hW
  have k0 : wa.cell? ⟨w.heap.size, 0, none⟩ = some (.int .i64 u0) := cell_of_row wa _ 0 _ _ _ hS
  have k1 : wa.cell? ⟨w.heap.size, 1, none⟩ = some (.int .i64 u1) := cell_of_row wa _ 1 _ _ _ hS
  have k2 : wa.cell? ⟨w.heap.size, 2, none⟩ = some (.int .i64 12) := cell_of_row wa _ 2 _ _ _ hS
  have k3 : wa.cell? ⟨w.heap.size, 3, none⟩ = some (.int .i64 30) := cell_of_row wa _ 3 _ _ _ hS
  have k4 : wa.cell? ⟨w.heap.size, 4, none⟩ = some (.int .i64 u4) := cell_of_row wa _ 4 _ _ _ hS
  have k5 : wa.cell? ⟨w.heap.size, 5, none⟩ = some (.int .i64 u5) := cell_of_row wa _ 5 _ _ _ hS
  have k6 : wa.cell? ⟨w.heap.size, 6, none⟩ = some (.int .i64 u6) := cell_of_row wa _ 6 _ _ _ hS
  have k7 : wa.cell? ⟨w.heap.size, 7, none⟩ = some (.string u7) := cell_of_row wa _ 7 _ _ _ hS
  clear hS hW
  go_upto_region 6 with (first | (go_at_call 7; go_loud (with_reducible refine (c3 _).mono ?_); rintro e w1 ⟨⟨P, Q, rfl, hPw, hPQ, hQw, hP, hQ⟩, hb1⟩))
  have HW1 := hid (below_tr HW.out hb1)
  have hwP : w.heap.size ≤ P := Nat.le_trans HW.out.size hPw
  have HP := hid hP
  have HQ := hid hQ
  clear k0 k1 k2 k3 k4 k5 k6 k7 hb1 c3 HW hP hQ
  go_wp2
  go_loopg [12, 13] 100 (fun fu c x13 wr => ∃ (j : Nat) (d : List UInt8) (yv : Option Addr) (yn yc : Nat), c = .int .i64 j ∧ j ≤ 13 ∧ fu + j = 100 ∧ GoodD d ka ∧ BoxI (sizedL u7.data.toList 8) (a01 (secN u5).toNat (secN u4).toNat) (heldS d) ∧ (heldS d).step = 1 ∧ (heldS d).sent = j ∧ (heldS d).prev = 0 ∧ wr.heap[P]? = some (.cells #[.string (str d), .int .i64 0, .int .i64 1, .int .i64 0, .int .i64 0, .int .i64 0, .int .i64 sa, .int .i64 (ca : Int), .int .i64 (secN u4), .int .i64 (secN u5), .slice none 0 0, .slice yv yn yc] 41) ∧ wr.heap[Q]? = some (.cells #[.string (str db), .int .i64 1, .int .i64 0, .int .i64 0, .int .i64 0, .int .i64 0, .int .i64 12, .int .i64 ((30 : Nat) : Int), .int .i64 (secN u5), .int .i64 0, .slice none 0 0, .slice none 0 0] 41) ∧ wr.ownsRow (Q + 1) 63 7 (.slice yv yn yc) (LL (fun c => letB (sizedL u7.data.toList 8) (a01 (secN u5).toNat (secN u4).toNat) 1 c 0 (a.data.toList.take 40)) (a.data.toList.take 40) (fun _ => false) j).length (ltsC (LL (fun c => letB (sizedL u7.data.toList 8) (a01 (secN u5).toNat (secN u4).toNat) 1 c 0 (a.data.toList.take 40)) (a.data.toList.take 40) (fun _ => false) j)) ∧ Below w.heap.size w wr ∧ Q + 1 ≤ wr.heap.size)
  case atStart => exact ⟨0, da, none, 0, 0, rfl, by omega, rfl, HSTART.out.1, HSTART.out.2.1, HSTART.out.2.2.1, HSTART.out.2.2.2.1, HSTART.out.2.2.2.2, HP.out, HQ.out, World.ownsRow_nil _ _ _ _, HW1.out, by omega⟩
  case round =>
    clear HSTART HP HQ HW1
    obtain ⟨j, d, yv, yn, yc, rfl, hj, hfu, gD, iD, s1, s2, s3, hPx, hQx, hrx, hbx, hsx⟩ := hrel
    by_cases hlt : j < 13
    · have hE := send_err gD (a.data.toList.take 40) l40 (by omega) (by omega) (by omega)
      obtain ⟨gD2, eD2⟩ := send_good gD _ hE
      have hLe : letL (heldS d) (a.data.toList.take 40) = letB (sizedL u7.data.toList 8) (a01 (secN u5).toNat (secN u4).toNat) 1 j 0 (a.data.toList.take 40) := by rw [letL_eq iD (by omega), s1, s2, s3]
      have cW := writes_any P (Q + 1) (str d) (.int .i64 0) (.int .i64 1) (.int .i64 0) (.int .i64 0) (.int .i64 0) (.int .i64 sa) (.int .i64 (ca : Int)) (.int .i64 (secN u4)) (.int .i64 (secN u5)) (.slice none 0 0) yv yn yc (LL (fun c => letB (sizedL u7.data.toList 8) (a01 (secN u5).toNat (secN u4).toNat) 1 c 0 (a.data.toList.take 40)) (a.data.toList.take 40) (fun _ => false) j) 1 a ka wr hPx hrx (by omega) hsx (by rw [LL_length]; omega) ha (by rw [str_toList]; exact gD) (by omega) (by omega) (Nat.lt_of_le_of_lt (ofStepN_LL _ _ _ _) (by omega)) (by rw [str_toList]; exact hE)
      rw [str_toList, hLe] at cW
      have hls : LL (fun c => letB (sizedL u7.data.toList 8) (a01 (secN u5).toNat (secN u4).toNat) 1 c 0 (a.data.toList.take 40)) (a.data.toList.take 40) (fun _ => false) (j + 1) = LL (fun c => letB (sizedL u7.data.toList 8) (a01 (secN u5).toNat (secN u4).toNat) 1 c 0 (a.data.toList.take 40)) (a.data.toList.take 40) (fun _ => false) j ++ [⟨letB (sizedL u7.data.toList 8) (a01 (secN u5).toNat (secN u4).toNat) 1 j 0 (a.data.toList.take 40), (a.data.toList.take 40), 1, 0, 0, 0, false⟩] := LL_succ _ _ _ _
      rw [← hls] at cW
      have cW' : Calls Try.prog 8 #[.pointer (some ⟨P, 0, none⟩), .int .i64 1, .string a] wr _ := cW
      have hoff : ∀ k, (Value.slice yv yn yc).ownBlock = some k → Q + 1 ≤ k := fun k q => (hrx.lt k q).1
      have HX := hid (And.intro gD2 (And.intro (show BoxI (sizedL u7.data.toList 8) (a01 (secN u5).toNat (secN u4).toNat) (heldS (sendTo d (a.data.toList.take 40))) by rw [eD2]; exact iD.send) (And.intro (show (heldS (sendTo d (a.data.toList.take 40))).step = 1 by rw [eD2]; exact s1) (And.intro (show (heldS (sendTo d (a.data.toList.take 40))).sent = j + 1 by rw [eD2]; show (heldS d).sent + 1 = j + 1; omega) (show (heldS (sendTo d (a.data.toList.take 40))).prev = 0 by rw [eD2]; exact s3)))))
      have HQX := hid hQx
      have HBX := hid hbx
      have HOFF := hid hoff
      have hj13 : (j : Int) < 13 := by omega
      clear cW hLe hls gD gD2 eD2 iD s1 s2 s3 hE hPx hQx hrx hbx hoff
      go_wp2_with (first | (go_at_call 8; go_loud (with_reducible refine cW'.mono ?_); rintro e w2 ⟨rfl, zv, zn, zc, hP2, hr2, hN2⟩; have HR2 := hid (And.intro hP2 (And.intro hr2 hN2)); clear hP2 hr2 hN2))
      go_roundg (gk - 1)
      case measure => omega
      case rel =>
        obtain ⟨hP2, hr2, hN2⟩ := HR2.out
        have hsz2 := hN2.size
        refine ⟨j + 1, sendTo d (a.data.toList.take 40), zv, zn, zc, by simp, by omega, by omega, HX.out.1, HX.out.2.1, HX.out.2.2.1, HX.out.2.2.2.1, HX.out.2.2.2.2, hP2, (hN2.block Q (by omega) (fun q => by rcases q with q | q; omega; have := HOFF.out Q q; omega)).trans HQX.out, hr2, HBX.out.trans (hN2.below HBX.out.size (fun k q => by rcases q with q | q; omega; have := HOFF.out k q; omega)), by omega⟩
    · obtain rfl : j = 13 := by omega
      have hj13 : ¬ ((13 : Nat) : Int) < 13 := by omega
      have hoff : ∀ k, (Value.slice yv yn yc).ownBlock = some k → Q + 1 ≤ k ∧ k < wr.heap.size := fun k q => hrx.lt k q
      have k0 : wr.cell? ⟨Q, 0, none⟩ = some (.string (str db)) := cell_of_row wr _ 0 _ _ _ hQx
      have hVx := HV.out.next hbx
      have cG : ∀ w0, Below wr.heap.size wr w0 → Calls Try.prog 15 #[.pointer (some ⟨P, 0, none⟩), .string (str db), .slice av l.length ac, .int .i64 (secN draw)] w0 fun e w' => (∃ d1 : List UInt8, e = .returned (.tuple #[.string (str d1), .bool true]) ∧ (OrdI (sizedL u7.data.toList 8) (a01 (secN u5).toNat (secN u4).toNat) (secN draw).toNat db (turnS (newS 1 12 30 0 (sizedL u7.data.toList 8) (secN u5).toNat) 1 (pwN 7 (secN u4).toNat) (secN draw).toNat) kb) (pAll l) d1) ∧ w'.heap[P]? = some (.cells #[.string (str d), .int .i64 0, .int .i64 1, .int .i64 0, .int .i64 0, .int .i64 0, .int .i64 sa, .int .i64 (ca : Int), .int .i64 (secN u4), .int .i64 (secN u5), .slice none 0 0, .slice yv yn yc] 41) ∧ (∃ g, w'.ownsRow (Q + 1) 63 7 (.slice yv yn yc) (LL (fun c => letB (sizedL u7.data.toList 8) (a01 (secN u5).toNat (secN u4).toNat) 1 c 0 (a.data.toList.take 40)) (a.data.toList.take 40) g 13).length (ltsC (LL (fun c => letB (sizedL u7.data.toList 8) (a01 (secN u5).toNat (secN u4).toNat) 1 c 0 (a.data.toList.take 40)) (a.data.toList.take 40) g 13))) ∧ Only (fun b => (Value.slice yv yn yc).ownBlock = some b) w0 w' := fun w0 hb0 => by
        have hsz0 := hb0.size
        exact given_any P (Q + 1) (str d) (str db) (.int .i64 0) (.int .i64 1) (.int .i64 0) (.int .i64 0) (.int .i64 0) (.int .i64 sa) (.int .i64 (ca : Int)) (.int .i64 (secN u4)) (.int .i64 (secN u5)) (.slice none 0 0) yv yn yc (fun c => letB (sizedL u7.data.toList 8) (a01 (secN u5).toNat (secN u4).toNat) 1 c 0 (a.data.toList.take 40)) (a.data.toList.take 40) (fun _ => false) (.slice av l.length ac) l (secN draw) kb w0 ((hb0.block P (by omega)).trans hPx) (ownsRow_below hrx hb0) (by omega) (by omega) (hVx.next hb0) (fun hne q h1 h2 => by have := HVB.out hne q h1; have := hoff q h2; omega) hll HLB.out HSEM.out.2.2.2.2 hsd (OrdI (sizedL u7.data.toList 8) (a01 (secN u5).toNat (secN u4).toNat) (secN draw).toNat db (turnS (newS 1 12 30 0 (sizedL u7.data.toList 8) (secN u5).toNat) 1 (pwN 7 (secN u4).toNat) (secN draw).toNat) kb) HSEM.out.1 HSEM.out.2.1 HSEM.out.2.2.1 HSEM.out.2.2.2.1
      have HQX := hid hQx
      have HBX := hid hbx
      have HOFF := hid hoff
      have HVX := hid hVx
      clear gD iD s1 s2 s3 hPx hQx hrx hbx hoff hVx
      go_upto_region 12 with fail
      go_cut [14, 11] (fun x y wx => (∃ d1 : List UInt8, x = .string (str d1) ∧ (OrdI (sizedL u7.data.toList 8) (a01 (secN u5).toNat (secN u4).toNat) (secN draw).toNat db (turnS (newS 1 12 30 0 (sizedL u7.data.toList 8) (secN u5).toNat) 1 (pwN 7 (secN u4).toNat) (secN draw).toNat) kb) (pAll l) d1) ∧ y = .bool true ∧ wx.heap[P]? = some (.cells #[.string (str d), .int .i64 0, .int .i64 1, .int .i64 0, .int .i64 0, .int .i64 0, .int .i64 sa, .int .i64 (ca : Int), .int .i64 (secN u4), .int .i64 (secN u5), .slice none 0 0, .slice yv yn yc] 41) ∧ (∃ g, wx.ownsRow (Q + 1) 63 7 (.slice yv yn yc) (LL (fun c => letB (sizedL u7.data.toList 8) (a01 (secN u5).toNat (secN u4).toNat) 1 c 0 (a.data.toList.take 40)) (a.data.toList.take 40) g 13).length (ltsC (LL (fun c => letB (sizedL u7.data.toList 8) (a01 (secN u5).toNat (secN u4).toNat) 1 c 0 (a.data.toList.take 40)) (a.data.toList.take 40) g 13))) ∧ Only (fun b => (Value.slice yv yn yc).ownBlock = some b) wr wx)
      case first =>
        go_region_held3 (fun w' => w'.cell? ⟨Q, 0, none⟩ = some (.string (str db))) (first | (simp [k0]; done) | (simp [u0]; done)) (first | (go_at_call 10; go_must (with_reducible refine (c4 _).mono ?_); rintro e w' ⟨rfl, hw⟩; rw [hw]; clear hw w') | (go_at_call 15; go_must (with_reducible refine (cG _ (by first | exact (Below.refl _ _).drew | exact Below.refl _ _)).mono ?_); rintro e w2 ⟨⟨d1, rfl, hI1⟩, hP2, hr2, hN2⟩; have u0 : w2.cell? ⟨Q, 0, none⟩ = some (.string (str db)) := (cell_same (hN2.block Q (by exact hsx) (fun q => by have := HOFF.out Q q; omega)) _).trans k0))
        all_goals (go_wp2_with fail)
        all_goals go_meet
        all_goals exact ⟨⟨d1, rfl, hI1⟩, rfl, hP2, hr2, ⟨hN2.os, hN2.tape, hN2.output, hN2.size, hN2.block⟩⟩
      case rest =>
        obtain ⟨⟨d1, rfl, hI1⟩, rfl, hP2, ⟨gg, hr2⟩, hN2⟩ := hcut
        have hsz2 := hN2.size
        have hQ2 := (hN2.block Q (by omega) (fun q => by have := HOFF.out Q q; omega)).trans HQX.out
        have hb2 : Below w.heap.size w wc := HBX.out.trans (hN2.below HBX.out.size (fun k q => by have := HOFF.out k q; omega))
        have hV2 := HV.out.next hb2
        have hoff2 : ∀ k, (Value.slice yv yn yc).ownBlock = some k → k < wc.heap.size := fun k q => (hr2.lt k q).2
        have k0' : wc.cell? ⟨Q, 0, none⟩ = some (.string (str db)) := cell_of_row wc _ 0 _ _ _ hQ2
        have cS := fun w0 hb0 => sorted_any (.slice av l.length ac) l w0 (hV2.next hb0) hll HLB.out
        have cH : ∀ w0 w1 (zv : Option Addr) (zn zc : Nat), Below wc.heap.size wc w0 → Below w0.heap.size w0 w1 → w1.ownsRow w0.heap.size 3 1 (.slice zv zn zc) (sortN l 13).length (intC (sortN l 13)) → Calls Try.prog 15 #[.pointer (some ⟨P, 0, none⟩), .string (str db), .slice zv zn zc, .int .i64 (secN draw)] w1 fun e w' => (∃ d2 : List UInt8, e = .returned (.tuple #[.string (str d2), .bool true]) ∧ (OrdI (sizedL u7.data.toList 8) (a01 (secN u5).toNat (secN u4).toNat) (secN draw).toNat db (turnS (newS 1 12 30 0 (sizedL u7.data.toList 8) (secN u5).toNat) 1 (pwN 7 (secN u4).toNat) (secN draw).toNat) kb) (pAll l) d2) ∧ w'.heap[P]? = some (.cells #[.string (str d), .int .i64 0, .int .i64 1, .int .i64 0, .int .i64 0, .int .i64 0, .int .i64 sa, .int .i64 (ca : Int), .int .i64 (secN u4), .int .i64 (secN u5), .slice none 0 0, .slice yv yn yc] 41) ∧ (∃ g, w'.ownsRow (Q + 1) 63 7 (.slice yv yn yc) (LL (fun c => letB (sizedL u7.data.toList 8) (a01 (secN u5).toNat (secN u4).toNat) 1 c 0 (a.data.toList.take 40)) (a.data.toList.take 40) g 13).length (ltsC (LL (fun c => letB (sizedL u7.data.toList 8) (a01 (secN u5).toNat (secN u4).toNat) 1 c 0 (a.data.toList.take 40)) (a.data.toList.take 40) g 13))) ∧ Only (fun b => (Value.slice yv yn yc).ownBlock = some b) w1 w' := fun w0 w1 zv zn zc hb0 hb01 hown => by
          have hb1 := below_tr hb0 hb01
          have hsz1 := hb1.size
          have hsz0 := hb0.size
          have hsl := sortN_length l 13
          have := given_any P (Q + 1) (str d) (str db) (.int .i64 0) (.int .i64 1) (.int .i64 0) (.int .i64 0) (.int .i64 0) (.int .i64 sa) (.int .i64 (ca : Int)) (.int .i64 (secN u4)) (.int .i64 (secN u5)) (.slice none 0 0) yv yn yc (fun c => letB (sizedL u7.data.toList 8) (a01 (secN u5).toNat (secN u4).toNat) 1 c 0 (a.data.toList.take 40)) (a.data.toList.take 40) gg (.slice zv zn zc) (sortN l 13) (secN draw) kb w1 ((hb1.block P (by omega)).trans hP2) (ownsRow_below hr2 hb1) (by omega) (by omega) (intsOwn hown) (fun _ q h1 h2 => by have := (hown.lt q h1).1; have := hoff2 q h2; omega) (by unfold maxLen; omega) (fun x hx => by obtain ⟨c, hc, _, rfl⟩ := sortN_mem l 13 x hx; omega) HSEM.out.2.2.2.2 hsd (OrdI (sizedL u7.data.toList 8) (a01 (secN u5).toNat (secN u4).toNat) (secN draw).toNat db (turnS (newS 1 12 30 0 (sizedL u7.data.toList 8) (secN u5).toNat) 1 (pwN 7 (secN u4).toNat) (secN draw).toNat) kb) HSEM.out.1 HSEM.out.2.1 HSEM.out.2.2.1 HSEM.out.2.2.2.1
          rw [pAll_sort] at this
          exact this
        have HI1 := hid hI1
        have HB2 := hid hb2
        have HOFF2 : Hid (∀ k, (Value.slice yv yn yc).ownBlock = some k → Q + 1 ≤ k) := fun k q => (HOFF.out k q).1
        clear hI1 hP2 hr2 hN2 hQ2 hb2 hV2 hoff2 k0 cG HQX HBX HOFF HVX
        go_upto_region 15 with fail
        go_cut [15, 11] (fun x y wx => (∃ d2 : List UInt8, x = .string (str d2) ∧ (OrdI (sizedL u7.data.toList 8) (a01 (secN u5).toNat (secN u4).toNat) (secN draw).toNat db (turnS (newS 1 12 30 0 (sizedL u7.data.toList 8) (secN u5).toNat) 1 (pwN 7 (secN u4).toNat) (secN draw).toNat) kb) (pAll l) d2) ∧ y = .bool true ∧ Only (fun b => (Value.slice yv yn yc).ownBlock = some b) wc wx)
        case first =>
          go_region_held3 (fun w' => w'.cell? ⟨Q, 0, none⟩ = some (.string (str db))) (first | (simp [k0']; done) | (simp [u0]; done) | (simp [r0]; done)) (first | (go_at_call 10; go_must (with_reducible refine (c4 _).mono ?_); rintro e w' ⟨rfl, hw⟩; rw [hw]; clear hw w') | (go_at_call 16; go_must (with_reducible refine (cS _ (by first | exact (Below.refl _ _).drew | exact Below.refl _ _)).mono ?_); rintro e w2 ⟨⟨zv, zn, zc, rfl, hown2⟩, hb2⟩; have hb2' : Below wc.heap.size wc w2 := ⟨hb2.os, hb2.tape, hb2.output, hb2.size, hb2.block⟩; have hown2' : w2.ownsRow wc.heap.size 3 1 (.slice zv zn zc) (sortN l 13).length (intC (sortN l 13)) := hown2; have u0 : w2.cell? ⟨Q, 0, none⟩ = some (.string (str db)) := (hb2'.cell (p := ⟨Q, 0, none⟩) (by show Q < wc.heap.size; omega)).trans k0') | (go_at_call 15; go_must (with_reducible refine (cH wc _ zv zn zc (Below.refl _ _) hb2' hown2').mono ?_); rintro e w3 ⟨⟨d2, rfl, hI2⟩, _, _, hN3⟩; have r0 : w3.cell? ⟨Q, 0, none⟩ = some (.string (str db)) := (cell_same (hN3.block Q (by have := hb2'.size; omega) (fun q => by have := HOFF2.out Q q; omega)) _).trans u0))
          all_goals (go_wp2_with fail)
          all_goals go_meet
          all_goals exact ⟨⟨d2, rfl, hI2⟩, rfl, (Only.of_below hb2').trans ⟨hN3.os, hN3.tape, hN3.output, hN3.size, hN3.block⟩⟩
        case rest =>
          obtain ⟨⟨d2, rfl, hI2⟩, rfl, hN3⟩ := hcut
          obtain rfl : d1 = d2 := HI1.out.det hI2
          have HN3 := hid hN3
          clear hI2 hN3 k0' cS cH
          go_wp2
          go_ret
          exact ⟨rfl, HB2.out.trans (HN3.out.below HB2.out.size (fun k q => by have := HOFF2.out k q; omega))⟩
theorem orders_walk (u0 u1 u2 u3 u4 u5 u6 : Int) (u7 : ByteArray) (a : ByteArray) (v : Value) (l : List Int) (draw : Int) (w0 : (Lit.int .i64 u0).wf = true) (w1 : (Lit.int .i64 u1).wf = true) (w2 : (Lit.int .i64 u2).wf = true) (w3 : (Lit.int .i64 u3).wf = true) (w4 : (Lit.int .i64 u4).wf = true) (w5 : (Lit.int .i64 u5).wf = true) (w6 : (Lit.int .i64 u6).wf = true) (w7 : u7.size ≤ maxLen) (ha : a.size ≤ maxLen) (w : World) (hv : IntsAt w v l) (hll : l.length ≤ maxLen) (hlb : ∀ x ∈ l, (Lit.int .i64 x).wf = true) (hd : (Lit.int .i64 draw).wf = true) :
    Calls Try.prog 5 #[.agg #[.int .i64 u0, .int .i64 u1, .int .i64 u2, .int .i64 u3, .int .i64 u4, .int .i64 u5, .int .i64 u6, .string u7], .string a, v, .int .i64 draw] w fun e w' => e = .returned (.bool true) ∧ Below w.heap.size w w' :=
  orders_go u0 u1 u2 u3 u4 u5 u6 u7 a v l draw w (wf_i64 w0) (wf_i64 w1) (wf_i64 w2) (wf_i64 w3) (wf_i64 w4) (wf_i64 w5) (wf_i64 w6) w7 ha hv hll (fun x hx => wf_i64 (hlb x hx)) (wf_i64 hd)
end Go.Proofs.Ytabpkohcimiceab

namespace Go.Proofs.Ytabpkohcimiceab
open Go.ChangeShapes Go.WideShapes Go.ChangeAt Go.RowKit
set_option linter.unusedVariables false
theorem Try.cellsInt : Try.prog.cellsOf 3 = 1 := by kernel_rfl
set_option maxRecDepth 100000 in
/-- A slice of integers that came in. -/
theorem ints_arg {H : Type} {enc : TypeId × Value → H} {W : World} {base : Nat} {v : Value} {d : DataW H} {p : List MemPlace} (hok : Value.okWide Try.prog W .any base 47 v) (h : DataW.Trod enc Try.prog W 0 (fun _ => true) true 47 v d p) :
    ∃ l : List Int, IntsAt W v l ∧ l.length ≤ maxLen ∧ (∀ x ∈ l, (Lit.int .i64 x).wf = true) ∧ ∀ W', Below W.heap.size W W' → DataW.Trod enc Try.prog W' 0 (fun b => decide (b < W.heap.size)) true 47 v d p := by
  obtain ⟨a0, len, cap, rfl⟩ := okWide_slice Try.underlying47 hok
  obtain ⟨fuel, hf⟩ := h
  rcases open_ints Try.underlying47 Try.underlying3 Try.cellsInt hf with ⟨hcs, hx⟩ | ⟨a, len', cap', zs, hcs, _, hl, hm, hz, hx, hcell, hwz⟩
  · simp [Value.cells] at hcs
    obtain ⟨rfl, rfl, rfl⟩ := hcs
    simp only [Prod.mk.injEq] at hx
    obtain ⟨rfl, rfl⟩ := hx
    refine ⟨[], .inl ⟨rfl, none, 0, rfl⟩, Nat.zero_le _, fun x hx => by simp at hx, fun W' _ => ⟨2, ?_⟩⟩
    simp [DataW.trod, Try.underlying47, Value.cells]
  · simp [Value.cells] at hcs
    obtain ⟨rfl, rfl, rfl⟩ := hcs
    simp only [Prod.mk.injEq] at hx
    obtain ⟨rfl, rfl⟩ := hx
    simp only [if_true] at hz
    have hlen : (zs.take len).length = len := by rw [List.length_take]; omega
    by_cases h0 : zs.length = 0
    · have hz0 : zs = [] := List.length_eq_zero_iff.1 h0
      have hl0 : len = 0 := by omega
      have hc0 : cap = 0 := by omega
      subst hz0 hl0 hc0
      refine ⟨[], .inl ⟨rfl, some a, 0, rfl⟩, Nat.zero_le _, fun x hx => by simp at hx, fun W' _ => ?_⟩
      have t0 := shut_ints (enc := enc) (P := Try.prog) (w := W') (base := 0) (spare := fun b => decide (b < W.heap.size)) (held := true) (a := a) (len := 0) (cap := 0) (zs := []) 0 Try.underlying47 Try.underlying3 Try.cellsInt (Nat.zero_le _) (Nat.le_refl _) (Nat.zero_le _) (by simp) (fun i hi => by simp at hi) (fun n hn => by simp at hn)
      exact ⟨2, by simpa [Value.cells] using t0⟩
    · obtain ⟨b, off, spot⟩ := a
      have hspot : spot = none := by simpa [Addr.add] using World.cell?_spot (hcell 0 (by omega))
      subst hspot
      have hcell' : ∀ j, j < zs.length → W.cell? ⟨b, off + j, none⟩ = some (.int .i64 (zs.getD j 0)) := fun j hj => by rw [← add_plain]; exact hcell j hj
      have hb : b < W.heap.size := by
        have h1 := hcell' 0 (by omega)
        rcases Nat.lt_or_ge b W.heap.size with q | q
        · exact q
        · unfold World.cell? at h1
          rw [Array.getElem?_eq_none (by exact q)] at h1
          simp at h1
      refine ⟨zs.take len, .inr ⟨b, off, cap, by rw [hlen], hb, fun i hi => ?_⟩, by rw [hlen]; exact Nat.le_trans hl hm, fun x hx => hwz x (List.mem_of_mem_take hx), fun W' hbel => ?_⟩
      · rw [hlen] at hi
        rw [hcell' i (by omega), List.getD_eq_getElem?_getD, List.getD_eq_getElem?_getD, List.getElem?_take, if_pos hi]
      · have t0 := shut_ints' (enc := enc) (P := Try.prog) (w := W') (base := 0) (spare := fun b => decide (b < W.heap.size)) (held := true) (b := b) (off := off) (len := len) (cap := cap) (zs := zs) 0 Try.underlying47 Try.underlying3 Try.cellsInt (Nat.zero_le _) hl hm (by simp [hb, hz]) (fun i hi => (hbel.cell (p := ⟨b, off + i, none⟩) hb).trans (hcell' i hi)) hwz
        exact ⟨2, by simpa [Value.cells] using t0⟩
end Go.Proofs.Ytabpkohcimiceab
