import Derived.Test.YtabpkohcimiceabTakX
import Derived.Handy
import Derived.ChangeOld
import Derived.Deep.Slices
namespace Go.Proofs.Ytabpkohcimiceab
set_option maxRecDepth 100000
set_option maxHeartbeats 1000000
open Go.RowKit
set_option linter.unusedVariables false
def pcells (d : List UInt8) (s : StM) (pe : Int) (vk vl : Value) : Array Value := #[.string (str d), .int .i64 s.role, .int .i64 s.step, .int .i64 s.sent, .int .i64 s.got, .int .i64 s.prev, .int .i64 s.skip, .int .i64 s.cap, .int .i64 s.secret, .int .i64 pe, vk, vl]
structure PAt (w : World) (P base : Nat) (d : List UInt8) (k : Nat) (s : StM) (pe : Int) (vk vl : Value) (L : List LtM) : Prop where
  blk : w.heap[P]? = some (.cells (pcells d s pe vk vl) 41)
  ids : IdsAt w vk s.kept
  row : w.ownsRow base 63 7 vl L.length (ltsC L)
  good : GoodD d k
  held : heldS d = s
def Apart (P Q : Nat) (l : List EntM) (vk vl vl' : Value) : Prop := l ≠ [] → ∀ k, vk.ownBlock = some k → k ≠ P ∧ k ≠ Q ∧ vl.ownBlock ≠ some k ∧ vl'.ownBlock ≠ some k
def PeerQ (a : Nat → Nat) (s : StM) (pe : Int) : Prop := pe = if s.step = 0 then 0 else ((a (s.step - 1) : Nat) : Int)
structure Two (r : List UInt8) (w : World) (P Q base : Nat) (a : Nat → Nat) (s t : StM) (pes pet : Int) (vks vkt vls vlt : Value) (Ls Lt : List LtM) (ds dt : List UInt8) (ks kt : Nat) : Prop where
  p : PAt w P base ds ks s pes vks vls Ls
  q : PAt w Q base dt kt t pet vkt vlt Lt
  keep : KeepI r a s t Ls Lt
  ps : PeerQ a s pes
  pt : PeerQ a t pet
  a1 : Apart P Q s.kept vks vls vlt
  a2 : Apart P Q t.kept vkt vls vlt
  rows : ∀ k, vls.ownBlock = some k → vlt.ownBlock ≠ some k
  hP : P < base
  hQ : Q < base
  hPQ : P ≠ Q
  hb : base ≤ w.heap.size
theorem Apart.symm {P Q : Nat} {l : List EntM} {vk vl vl' : Value} (h : Apart P Q l vk vl vl') : Apart Q P l vk vl' vl := fun hn k hk => ⟨(h hn k hk).2.1, (h hn k hk).1, (h hn k hk).2.2.2, (h hn k hk).2.2.1⟩
theorem Two.symm {r : List UInt8} {w : World} {P Q base : Nat} {a : Nat → Nat} {s t : StM} {pes pet : Int} {vks vkt vls vlt : Value} {Ls Lt : List LtM} {ds dt : List UInt8} {ks kt : Nat} (h : Two r w P Q base a s t pes pet vks vkt vls vlt Ls Lt ds dt ks kt) : Two r w Q P base a t s pet pes vkt vks vlt vls Lt Ls dt ds kt ks :=
  ⟨h.q, h.p, h.keep.symm, h.pt, h.ps, h.a2.symm, h.a1.symm, fun k hk q => h.rows k q hk, h.hQ, h.hP, fun e => h.hPQ e.symm, h.hb⟩
def TwoX (r : List UInt8) (w : World) (P Q base : Nat) : Prop := ∃ a s t pes pet vks vkt vls vlt Ls Lt ds dt ks kt, Two r w P Q base a s t pes pet vks vkt vls vlt Ls Lt ds dt ks kt
theorem TwoX.symm {r : List UInt8} {w : World} {P Q base : Nat} (h : TwoX r w P Q base) : TwoX r w Q P base := by
  obtain ⟨a, s, t, pes, pet, vks, vkt, vls, vlt, Ls, Lt, ds, dt, ks, kt, h⟩ := h; exact ⟨a, t, s, pet, pes, vkt, vks, vlt, vls, Lt, Ls, dt, ds, kt, ks, h.symm⟩
theorem ids_lt {w : World} {v : Value} {l : List EntM} (h : IdsAt w v l) (hn : l ≠ []) {k : Nat} (hk : v.ownBlock = some k) : k < w.heap.size := by
  rcases h with ⟨q, _⟩ | ⟨b, off, cap, h1, h2, h3, h4, _⟩
  · exact absurd q hn
  · rw [h1] at hk
    have : b = k := Option.some.inj hk
    omega
theorem blk_lt {w : World} {b : Nat} {o : Obj} (h : w.heap[b]? = some o) : b < w.heap.size := by
  rcases Nat.lt_or_ge b w.heap.size with q | q
  · exact q
  · rw [Array.getElem?_eq_none (by exact q)] at h; cases h
theorem PAt.only {S : Nat → Prop} {w w' : World} {P base : Nat} {d : List UInt8} {k : Nat} {s : StM} {pe : Int} {vk vl : Value} {L : List LtM} (h : PAt w P base d k s pe vk vl L) (ho : Only S w w') (h1 : ¬ S P) (h2 : s.kept ≠ [] → ∀ b, vk.ownBlock = some b → ¬ S b) (h3 : ∀ b, vl.ownBlock = some b → ¬ S b) : PAt w' P base d k s pe vk vl L :=
  ⟨(ho.block P (blk_lt h.blk) h1).trans h.blk, h.ids.only ho h2, ho.own h.row h3, h.good, h.held⟩
theorem PAt.next {w w' : World} {P base : Nat} {d : List UInt8} {k : Nat} {s : StM} {pe : Int} {vk vl : Value} {L : List LtM} (h : PAt w P base d k s pe vk vl L) (hb : Below w.heap.size w w') : PAt w' P base d k s pe vk vl L :=
  h.only (S := fun _ => False) (Only.of_below hb) (fun q => q) (fun _ _ _ q => q) (fun _ _ q => q)
theorem Two.next {r : List UInt8} {w w' : World} {P Q base : Nat} {a : Nat → Nat} {s t : StM} {pes pet : Int} {vks vkt vls vlt : Value} {Ls Lt : List LtM} {ds dt : List UInt8} {ks kt : Nat} (h : Two r w P Q base a s t pes pet vks vkt vls vlt Ls Lt ds dt ks kt) (hb : Below w.heap.size w w') : Two r w' P Q base a s t pes pet vks vkt vls vlt Ls Lt ds dt ks kt :=
  ⟨h.p.next hb, h.q.next hb, h.keep, h.ps, h.pt, h.a1, h.a2, h.rows, h.hP, h.hQ, h.hPQ, Nat.le_trans h.hb hb.size⟩
theorem TwoX.next {r : List UInt8} {w w' : World} {P Q base : Nat} (h : TwoX r w P Q base) (hb : Below w.heap.size w w') : TwoX r w' P Q base := by
  obtain ⟨a, s, t, pes, pet, vks, vkt, vls, vlt, Ls, Lt, ds, dt, ks, kt, h⟩ := h; exact ⟨a, s, t, pes, pet, vks, vkt, vls, vlt, Ls, Lt, ds, dt, ks, kt, h.next hb⟩
def MaySet (P Q base : Nat) : Nat → Prop := fun b => b = P ∨ b = Q ∨ base ≤ b
theorem cast_succ (n : Nat) : (((n + 1 : Nat)) : Int) = (n : Int) + 1 := by omega
theorem pcells_send (d : List UInt8) (s : StM) (pe : Int) (vk vl : Value) : pcells d (sendS s) pe vk vl = #[.string (str d), .int .i64 s.role, .int .i64 s.step, .int .i64 ((s.sent : Int) + 1), .int .i64 s.got, .int .i64 s.prev, .int .i64 s.skip, .int .i64 s.cap, .int .i64 s.secret, .int .i64 pe, vk, vl] := by
  rw [pcells, ← cast_succ]; rfl
theorem pwrite_any {r : List UInt8} {w : World} {P Q base : Nat} {a : Nat → Nat} {s t : StM} {pes pet : Int} {vks vkt vls vlt : Value} {Ls Lt : List LtM} {ds dt : List UInt8} {ks kt : Nat} (h : Two r w P Q base a s t pes pet vks vkt vls vlt Ls Lt ds dt ks kt) (kd who pn dr f0 f1 : Int) (tx k1 k2 : ByteArray) (cut : Bool) (ht : tx.size ≤ maxLen) (hf0 : (-9223372036854775808 ≤ f0 ∧ f0 ≤ 9223372036854775807)) (hf1 : (-9223372036854775808 ≤ f1 ∧ f1 ≤ 9223372036854775807)) (hk1 : k1.size ≤ maxLen) (hk2 : k2.size ≤ maxLen) :
    Calls Try.prog 17 #[.pointer (some ⟨P, 0, none⟩), .agg #[.int .i64 kd, .int .i64 who, .int .i64 pn, .int .i64 dr, .string tx, .bool cut, .int .i64 f0, .int .i64 f1, .string k1, .string k2]] w fun e w' => e = .returned (.bool true) ∧ TwoX r w' P Q base ∧ Only (MaySet P Q base) w w' := by
  obtain ⟨aa, cc, hvk⟩ := h.p.ids.form; subst hvk; obtain ⟨xv, xc, hvl⟩ := ltForm h.p.row; subst hvl
  have hs : heldS (str ds).data.toList = s := by rw [str_toList]; exact h.p.held
  have hg : GoodD (str ds).data.toList ks := by rw [str_toList]; exact h.p.good
  have hL : Ls.length ≤ 2000 := Nat.le_trans h.keep.len_le (by omega)
  have hbel : ∀ w', Below w.heap.size w w' → Only (MaySet P Q base) w w' := fun w' hb => Only.of_below hb
  by_cases hm : mayW s = 0
  · obtain ⟨m1, m2, m3⟩ := mayW_ok hm
    have l40 : (tx.data.toList.take 40).length ≤ 40 := by rw [List.length_take]; omega
    have herr : sendErr ds (tx.data.toList.take 40) = 0 := by rw [send_mayW h.p.good _ l40, h.p.held]; exact hm
    obtain ⟨g1, g2⟩ := send_good h.p.good _ herr
    rw [h.p.held] at g2
    have hlaw : LawQ (sendS s) := by rw [← g2]; exact (good_lawQ g1).1
    have hlr : ∀ k, (Value.slice xv Ls.length xc).ownBlock = some k → base ≤ k ∧ k < w.heap.size := fun k hk => h.p.row.lt k hk
    have hlq : ∀ k, vlt.ownBlock = some k → base ≤ k ∧ k < w.heap.size := fun k hk => h.q.row.lt k hk
    cases cut with
    | false =>
      refine (write_plain P base (str ds) s pes aa s.kept.length cc xv Ls.length xc Ls kd who pn dr f0 f1 tx k1 k2 ks w h.p.blk h.p.row h.hP h.hb hL ht hg hs hm).mono ?_
      rintro e w' ⟨he, yv, yn, yc, b1, b2, b3, b4⟩
      rw [str_toList] at b1
      refine ⟨he, ⟨a, sendS s, t, pes, pet, _, vkt, .slice yv yn yc, vlt, Ls ++ [newLt s (tx.data.toList.take 40)], Lt, sendTo ds (tx.data.toList.take 40), dt, ks, kt, ⟨⟨by rw [pcells_send]; exact b1, h.p.ids.only b4 (fun hn b hb q => ?_), b2, g1, g2⟩, h.q.only b4 (fun q => ?_) (fun hn b hb q => ?_) (fun b hb q => ?_), h.keep.wrote m1 m2 m3 hlaw _ l40, h.ps, h.pt, fun hn k hk => ⟨(h.a1 hn k hk).1, (h.a1 hn k hk).2.1, fun q => ?_, (h.a1 hn k hk).2.2.2⟩, fun hn k hk => ⟨(h.a2 hn k hk).1, (h.a2 hn k hk).2.1, fun q => ?_, (h.a2 hn k hk).2.2.2⟩, fun k hk q => ?_, h.hP, h.hQ, h.hPQ, Nat.le_trans h.hb b4.size⟩⟩, b4.mono (fun k _ q => ?_)⟩
      · rcases q with q | q
        · exact (h.a1 hn b hb).1 q
        · exact (h.a1 hn b hb).2.2.1 q
      · rcases q with q | q
        · exact h.hPQ q.symm
        · have := (hlr _ q).1; have := h.hQ; omega
      · rcases q with q | q
        · exact (h.a2 hn b hb).1 q
        · exact (h.a2 hn b hb).2.2.1 q
      · rcases q with q | q
        · have := (hlq _ hb).1; have := h.hP; omega
        · exact h.rows _ q hb
      · rcases b3 k q with z | z
        · exact (h.a1 hn k hk).2.2.1 z
        · have := ids_lt h.p.ids hn hk; omega
      · rcases b3 k q with z | z
        · exact (h.a2 hn k hk).2.2.1 z
        · have := ids_lt h.q.ids hn hk; omega
      · rcases b3 k hk with z | z
        · exact h.rows k z q
        · have := (hlq k q).2; omega
      · rcases q with q | q
        · exact .inl q
        · exact .inr (.inr (hlr k q).1)
    | true =>
      refine (write_cut P base (str ds) s pes aa s.kept.length cc xv Ls.length xc Ls kd who pn dr f0 f1 tx k1 k2 ks w h.p.blk h.p.row h.hP h.hb hL ht hg hs hm hf0 hf1 hk1 hk2).mono ?_
      rintro e w' ⟨he, b1, b4⟩
      have hq2 := h.q.only b4 (fun q => h.hPQ q.symm) (fun hn b hb q => (h.a2 hn b hb).1 q) (fun b hb q => by have := (hlq _ hb).1; have := h.hP; omega)
      have hi2 := h.p.ids.only b4 (fun hn b hb q => (h.a1 hn b hb).1 q)
      have hr2 := b4.own h.p.row (fun b hb q => by have := (hlr _ hb).1; have := h.hP; omega)
      refine ⟨he, ?_, b4.mono (fun k _ q => .inl q)⟩
      rcases b1 with b1 | b1
      · exact ⟨a, s, t, pes, pet, _, vkt, _, vlt, Ls, Lt, ds, dt, ks, kt, ⟨⟨b1, hi2, hr2, h.p.good, h.p.held⟩, hq2, h.keep, h.ps, h.pt, h.a1, h.a2, h.rows, h.hP, h.hQ, h.hPQ, Nat.le_trans h.hb b4.size⟩⟩
      · rw [str_toList] at b1
        exact ⟨a, sendS s, t, pes, pet, _, vkt, _, vlt, Ls, Lt, sendTo ds (tx.data.toList.take 40), dt, ks, kt, ⟨⟨by rw [pcells_send]; exact b1, hi2, hr2, g1, g2⟩, hq2, h.keep.sent m1 m2 hlaw, h.ps, h.pt, h.a1, h.a2, h.rows, h.hP, h.hQ, h.hPQ, Nat.le_trans h.hb b4.size⟩⟩
  · refine (write_err P base (str ds) s pes aa s.kept.length cc xv Ls.length xc Ls kd who pn dr f0 f1 tx k1 k2 ks w h.p.blk h.p.row h.hP h.hb hL ht hg hs cut hm).mono ?_
    rintro e w' ⟨he, hb⟩
    exact ⟨he, ⟨a, s, t, pes, pet, _, vkt, _, vlt, Ls, Lt, ds, dt, ks, kt, h.next hb⟩, hbel w' hb⟩
theorem ptake_any {r : List UInt8} {w : World} {P Q base : Nat} {a : Nat → Nat} {s t : StM} {pes pet : Int} {vks vkt vls vlt : Value} {Ls Lt : List LtM} {ds dt : List UInt8} {ks kt : Nat} (h : Two r w P Q base a s t pes pet vks vkt vls vlt Ls Lt ds dt ks kt) (kd who pn dr f0 f1 : Int) (tx k1 k2 : ByteArray) (cut : Bool) (hpn : (-9223372036854775808 ≤ pn ∧ pn ≤ 9223372036854775807)) (hdr : (-9223372036854775808 ≤ dr ∧ dr ≤ 9223372036854775807)) (hf0 : (-9223372036854775808 ≤ f0 ∧ f0 ≤ 9223372036854775807)) (hf1 : (-9223372036854775808 ≤ f1 ∧ f1 ≤ 9223372036854775807)) (hk1 : k1.size ≤ maxLen) (hk2 : k2.size ≤ maxLen) :
    Calls Try.prog 18 #[.pointer (some ⟨P, 0, none⟩), .pointer (some ⟨Q, 0, none⟩), .agg #[.int .i64 kd, .int .i64 who, .int .i64 pn, .int .i64 dr, .string tx, .bool cut, .int .i64 f0, .int .i64 f1, .string k1, .string k2]] w fun e w' => e = .returned (.bool true) ∧ TwoX r w' P Q base ∧ Only (MaySet P Q base) w w' := by
  obtain ⟨aa, cc, hvk⟩ := h.p.ids.form; subst hvk; obtain ⟨xv, xc, hvl⟩ := ltForm h.q.row; subst hvl
  have hbel : ∀ w', Below w.heap.size w w' → TwoX r w' P Q base ∧ Only (MaySet P Q base) w w' := fun w' hb => ⟨⟨a, s, t, pes, pet, _, vkt, vls, _, Ls, Lt, ds, dt, ks, kt, h.next hb⟩, Only.of_below hb⟩
  by_cases h0 : Lt.length = 0
  · have hQ := h.q.blk
    rw [h0] at hQ
    refine (take_none P Q (str dt) _ _ _ _ _ _ _ _ _ _ xv xc kd who pn dr f0 f1 tx k1 k2 cut w hQ (blk_lt hQ)).mono ?_
    rintro e w' ⟨he, hb⟩
    exact ⟨he, hbel w' hb⟩
  · have hL : Lt.length ≤ 2000 := Nat.le_trans h.keep.symm.len_le (by omega)
    obtain ⟨b0, b1⟩ := pickN_bd pn (Lt.length : Int) (by omega)
    obtain ⟨i, hpi⟩ := Int.eq_ofNat_of_zero_le b0
    rw [hpi] at b1
    have hi : i < Lt.length := by omega
    have hsec := secN_sec dr
    have hs0 : 0 ≤ secN dr := by unfold Sec at hsec; omega
    obtain ⟨dn, hdn⟩ := Int.eq_ofNat_of_zero_le hs0
    rw [hdn] at hsec
    have hdt : ((dn : Nat) : Int).toNat = dn := Int.toNat_natCast dn
    have hm : Lt.getD i ltZ ∈ Lt := by rw [List.getD_eq_getElem?_getD, List.getElem?_eq_getElem hi]; exact List.getElem_mem hi
    obtain ⟨wq, wsec⟩ := h.keep.lt.wrote _ hm
    obtain ⟨lx, hlx⟩ : ∃ lx, Lt.getD i ltZ = lx := ⟨_, rfl⟩
    rw [hlx] at wq wsec hm
    have hg : GoodD (str ds).data.toList ks := by rw [str_toList]; exact h.p.good
    have hbs : lx.bytes.length ≤ 1000 := by rw [wq.bytes, letB_length]; have := wq.txt; omega
    have hf := pair_far h.keep.pair wq; have hq := h.keep.pair.ls
    have hkc : s.kept.length ≤ s.cap := by have := h.p.good.kept; rw [h.p.held] at this; exact this
    have K := fun cutx => fun (hE : (keyR s (letQ lx.step lx.count lx.prev (pwN 7 (a lx.step))) dn).1 ≠ 0) => take_err P Q base (str ds) (str dt) s pes aa cc vls _ _ _ _ _ _ _ _ _ _ xv Lt.length xc Lt lx i (pwN 7 (a lx.step)) dn kd who pn dr f0 f1 tx k1 k2 ks w h.p.blk h.q.blk h.q.row h.hP h.hQ h.hPQ h.hb hL hi hlx hpi hpn hdr hdn hbs hg h.p.ids hq hkc hf wq.s1 wq.cnt wq.prv cutx _ (by rw [str_toList]; exact pair_err h.p.good h.p.held wq (dn : Int) _ hsec (by rw [hdt]) hE) hE rfl
    by_cases hk : (keyR s (letQ lx.step lx.count lx.prev (pwN 7 (a lx.step))) dn).1 = 0
    · have hk' : (keyR s (letQ lx.step lx.count lx.prev (pwN 7 (a lx.step))) ((dn : Nat) : Int).toNat).1 = 0 := by rw [hdt]; exact hk
      obtain ⟨r1, r2, r3, r4, r5, r6⟩ := pair_ok h.keep.pair h.p.good h.p.held wq (dn : Int) hsec hk'
      rw [hdt] at r3 r6
      have hlr : ∀ k, vls.ownBlock = some k → base ≤ k ∧ k < w.heap.size := fun k hk => h.p.row.lt k hk
      have hlq : ∀ k, (Value.slice xv Lt.length xc).ownBlock = some k → base ≤ k ∧ k < w.heap.size := fun k hk => h.q.row.lt k hk
      obtain ⟨f1', _⟩ := keyR_facts hk
      have hstep : (capS (keyR s (letQ lx.step lx.count lx.prev (pwN 7 (a lx.step))) dn).2.2).step = if lx.step = s.step + 1 then lx.step + 1 else s.step := f1'
      have hpeS : PeerQ (nextA a s lx.step dn) (capS (keyR s (letQ lx.step lx.count lx.prev (pwN 7 (a lx.step))) dn).2.2) (if lx.step = s.step + 1 then (lx.secret : Int) else pes) := by
        rw [PeerQ, hstep]
        by_cases q : lx.step = s.step + 1
        · rw [if_pos q, if_pos q, if_neg (by omega), Nat.add_sub_cancel, nextA_low a s _ _ _ (by omega), wsec]
        · rw [if_neg q, if_neg q, h.ps]
          by_cases q0 : s.step = 0
          · rw [if_pos q0, if_pos q0]
          · rw [if_neg q0, if_neg q0, nextA_low a s _ _ _ (by omega)]
      have hpeT : PeerQ (nextA a s lx.step dn) t pet := by
        rw [PeerQ, h.pt]
        by_cases q0 : t.step = 0
        · rw [if_pos q0, if_pos q0]
        · rw [if_neg q0, if_neg q0, nextA_low a s _ _ _ (by have := h.keep.pair.st; omega)]
      cases cut with
      | false =>
        have hout : lx.out = false := by
          cases ho : lx.out with
          | false => rfl
          | true =>
            have := h.keep.out lx hm ho (pwN 7 (a lx.step)) dn
            rw [hk] at this; cases this
        have hkeep := h.keep.came h.p.good h.p.held i hi (dn : Int) hsec (by rw [hlx]; exact hk')
        rw [hlx, hdt] at hkeep
        refine (take_plain P Q base (str ds) (str dt) s pes aa cc vls _ _ _ _ _ _ _ _ _ _ xv Lt.length xc Lt lx i (pwN 7 (a lx.step)) dn kd who pn dr f0 f1 tx k1 k2 ks w h.p.blk h.q.blk h.q.row h.hP h.hQ h.hPQ h.hb hL hi hlx hpi hpn hdr hdn hbs hg h.p.ids hq hkc hf wq.s1 wq.cnt wq.prv (by rw [str_toList]; exact r1) (by rw [str_toList]; exact r2) hk _ rfl _ rfl hout).mono ?_
        rintro e w' ⟨he, ⟨yv, yc, b1, b2, b3⟩, b4, b5, b6⟩
        rw [str_toList] at b1
        refine ⟨he, ⟨_, _, t, _, pet, _, vkt, vls, _, Ls, _, _, dt, ks, kt, ⟨⟨b1, b2, b6.own h.p.row (fun b hb q => ?_), r4, r3⟩, ⟨b4, h.q.ids.only b6 (fun hn b hb q => ?_), b5, h.q.good, h.q.held⟩, hkeep, hpeS, hpeT, fun hn k hk => ⟨?_, ?_, ?_, ?_⟩, h.a2, h.rows, h.hP, h.hQ, h.hPQ, Nat.le_trans h.hb b6.size⟩⟩, b6.mono (fun k _ q => ?_)⟩
        · rcases q with q | q
          · have := (hlr _ hb).1; have := h.hP; omega
          · exact h.rows _ hb q
        · rcases q with q | q
          · exact (h.a2 hn b hb).1 q
          · exact (h.a2 hn b hb).2.2.2 q
        · have := b3 k hk; have := blk_lt h.p.blk; omega
        · have := b3 k hk; have := blk_lt h.q.blk; omega
        · intro q; have := b3 k hk; have := (hlr k q).2; omega
        · intro q; have := b3 k hk; have := (hlq k q).2; omega
        · rcases q with q | q
          · exact .inl q
          · exact .inr (.inr (hlq k q).1)
      | true =>
        have hkeep := h.keep.took h.p.good h.p.held lx hm (dn : Int) hsec hk'
        rw [hdt] at hkeep
        refine (take_cut P Q base (str ds) (str dt) s pes aa cc vls _ _ _ _ _ _ _ _ _ _ xv Lt.length xc Lt lx i (pwN 7 (a lx.step)) dn kd who pn dr f0 f1 tx k1 k2 ks w h.p.blk h.q.blk h.q.row h.hP h.hQ h.hPQ h.hb hL hi hlx hpi hpn hdr hdn hbs hg h.p.ids hq hkc hf wq.s1 wq.cnt wq.prv (by rw [str_toList]; exact r1) (by rw [str_toList]; exact r2) hk _ rfl _ rfl hf0 hf1 hk1 hk2).mono ?_
        rintro e w' ⟨he, b1, b6⟩
        have hq2 := h.q.only b6 (fun q => h.hPQ q.symm) (fun hn b hb q => (h.a2 hn b hb).1 q) (fun b hb q => by have := (hlq _ hb).1; have := h.hP; omega)
        have hr2 := b6.own h.p.row (fun b hb q => by have := (hlr _ hb).1; have := h.hP; omega)
        refine ⟨he, ?_, b6.mono (fun k _ q => .inl q)⟩
        rcases b1 with b1 | ⟨yv, yc, b1, b2, b3⟩
        · exact ⟨a, s, t, pes, pet, _, vkt, vls, _, Ls, Lt, ds, dt, ks, kt, ⟨⟨b1, h.p.ids.only b6 (fun hn b hb q => (h.a1 hn b hb).1 q), hr2, h.p.good, h.p.held⟩, hq2, h.keep, h.ps, h.pt, h.a1, h.a2, h.rows, h.hP, h.hQ, h.hPQ, Nat.le_trans h.hb b6.size⟩⟩
        · rw [str_toList] at b1
          refine ⟨_, _, t, _, pet, _, vkt, vls, _, Ls, Lt, _, dt, ks, kt, ⟨⟨b1, b2, hr2, r4, r3⟩, hq2, hkeep, hpeS, hpeT, fun hn k hk => ⟨?_, ?_, ?_, ?_⟩, h.a2, h.rows, h.hP, h.hQ, h.hPQ, Nat.le_trans h.hb b6.size⟩⟩
          · have := b3 k hk; have := blk_lt h.p.blk; omega
          · have := b3 k hk; have := blk_lt h.q.blk; omega
          · intro q; have := b3 k hk; have := (hlr k q).2; omega
          · intro q; have := b3 k hk; have := (hlq k q).2; omega
    · refine (K cut hk).mono ?_
      rintro e w' ⟨he, hb⟩
      exact ⟨he, hbel w' hb⟩
set_option linter.unusedSimpArgs false
theorem step0_1 (r : List UInt8) (P Q base : Nat) (kd who pn dr f0 f1 : Int) (tx k1 k2 : ByteArray) (cut : Bool) (w : World) (h : TwoX r w P Q base) (hpn : (-9223372036854775808 ≤ pn ∧ pn ≤ 9223372036854775807)) (hdr : (-9223372036854775808 ≤ dr ∧ dr ≤ 9223372036854775807)) (hf0 : (-9223372036854775808 ≤ f0 ∧ f0 ≤ 9223372036854775807)) (hf1 : (-9223372036854775808 ≤ f1 ∧ f1 ≤ 9223372036854775807)) (ht : tx.size ≤ maxLen) (hk1 : k1.size ≤ maxLen) (hk2 : k2.size ≤ maxLen) (hwho : ¬ bits .and .i64 who 1 = 1) (hkd : kd = 1) :
    Calls Try.prog 20 #[.pointer (some ⟨P, 0, none⟩), .pointer (some ⟨Q, 0, none⟩), .agg #[.int .i64 kd, .int .i64 who, .int .i64 pn, .int .i64 dr, .string tx, .bool cut, .int .i64 f0, .int .i64 f1, .string k1, .string k2]] w fun e w' => e = .returned (.bool true) ∧ TwoX r w' P Q base ∧ Only (MaySet P Q base) w w' := by
  have c1 : ∀ w, TwoX r w P Q base → Calls Try.prog 17 #[.pointer (some ⟨P, 0, none⟩), .agg #[.int .i64 kd, .int .i64 who, .int .i64 pn, .int .i64 dr, .string tx, .bool cut, .int .i64 f0, .int .i64 f1, .string k1, .string k2]] w fun e w' => e = .returned (.bool true) ∧ TwoX r w' P Q base ∧ Only (MaySet P Q base) w w' := fun w h => by
    obtain ⟨a, s, t, pes, pet, vks, vkt, vls, vlt, Ls, Lt, ds, dt, ks, kt, h⟩ := h; exact pwrite_any h kd who pn dr f0 f1 tx k1 k2 cut ht hf0 hf1 hk1 hk2
  have n1 : (kd == 1) = true := by rw [beq_iff_eq]; exact hkd
  clear hkd
  go_enter Try.func20, Try.ntmps20
  go_upto_region 1 with fail
  obtain ⟨ob, eob⟩ : ∃ ob, ob = Obj.cells #[.int .i64 kd, .int .i64 who, .int .i64 pn, .int .i64 dr, .string tx, .bool cut, .int .i64 f0, .int .i64 f1, .string k1, .string k2] 34 := ⟨_, rfl⟩
  rw [← eob]; have hO := heap_alloc_new w ob; have hW : Below w.heap.size w (w.alloc ob) := (Below.refl _ _).alloc (Nat.le_refl _) _
  generalize (w.alloc ob) = wa at hO hW ⊢
  subst eob; have HT : Hid (TwoX r wa P Q base) := (h).next hW; have HW := hid hW; obtain ⟨o0, o1, o2, o3, o4, o5, o6, o7, o8, o9⟩ := cells10 hO; clear hO hW h
  go_wp2_with (first | (go_at_call 17; (with_reducible refine (c1 _ HT.out).mono ?_); rintro e w2 ⟨rfl, ht2, hn2⟩; have HT2 := hid ht2; have HN2 := hid hn2; clear ht2 hn2))
  go_ret
  exact ⟨rfl, HT2.out, (Only.of_below HW.out).trans (HN2.out.mono (fun k _ q => q))⟩
theorem step0_2 (r : List UInt8) (P Q base : Nat) (kd who pn dr f0 f1 : Int) (tx k1 k2 : ByteArray) (cut : Bool) (w : World) (h : TwoX r w P Q base) (hpn : (-9223372036854775808 ≤ pn ∧ pn ≤ 9223372036854775807)) (hdr : (-9223372036854775808 ≤ dr ∧ dr ≤ 9223372036854775807)) (hf0 : (-9223372036854775808 ≤ f0 ∧ f0 ≤ 9223372036854775807)) (hf1 : (-9223372036854775808 ≤ f1 ∧ f1 ≤ 9223372036854775807)) (ht : tx.size ≤ maxLen) (hk1 : k1.size ≤ maxLen) (hk2 : k2.size ≤ maxLen) (hwho : ¬ bits .and .i64 who 1 = 1) (hkd : kd = 2) :
    Calls Try.prog 20 #[.pointer (some ⟨P, 0, none⟩), .pointer (some ⟨Q, 0, none⟩), .agg #[.int .i64 kd, .int .i64 who, .int .i64 pn, .int .i64 dr, .string tx, .bool cut, .int .i64 f0, .int .i64 f1, .string k1, .string k2]] w fun e w' => e = .returned (.bool true) ∧ TwoX r w' P Q base ∧ Only (MaySet P Q base) w w' := by
  have c1 : ∀ w, TwoX r w P Q base → Calls Try.prog 18 #[.pointer (some ⟨P, 0, none⟩), .pointer (some ⟨Q, 0, none⟩), .agg #[.int .i64 kd, .int .i64 who, .int .i64 pn, .int .i64 dr, .string tx, .bool cut, .int .i64 f0, .int .i64 f1, .string k1, .string k2]] w fun e w' => e = .returned (.bool true) ∧ TwoX r w' P Q base ∧ Only (MaySet P Q base) w w' := fun w h => by
    obtain ⟨a, s, t, pes, pet, vks, vkt, vls, vlt, Ls, Lt, ds, dt, ks, kt, h⟩ := h; exact ptake_any h kd who pn dr f0 f1 tx k1 k2 cut hpn hdr hf0 hf1 hk1 hk2
  have n1 : (kd == 1) = false := by rw [beq_eq_false_iff_ne]; omega
  have n2 : (kd == 2) = true := by rw [beq_iff_eq]; exact hkd
  clear hkd
  go_enter Try.func20, Try.ntmps20
  go_upto_region 1 with fail
  obtain ⟨ob, eob⟩ : ∃ ob, ob = Obj.cells #[.int .i64 kd, .int .i64 who, .int .i64 pn, .int .i64 dr, .string tx, .bool cut, .int .i64 f0, .int .i64 f1, .string k1, .string k2] 34 := ⟨_, rfl⟩
  rw [← eob]; have hO := heap_alloc_new w ob; have hW : Below w.heap.size w (w.alloc ob) := (Below.refl _ _).alloc (Nat.le_refl _) _
  generalize (w.alloc ob) = wa at hO hW ⊢
  subst eob; have HT : Hid (TwoX r wa P Q base) := (h).next hW; have HW := hid hW; obtain ⟨o0, o1, o2, o3, o4, o5, o6, o7, o8, o9⟩ := cells10 hO; clear hO hW h
  go_wp2_with (first | (go_at_call 18; (with_reducible refine (c1 _ HT.out).mono ?_); rintro e w2 ⟨rfl, ht2, hn2⟩; have HT2 := hid ht2; have HN2 := hid hn2; clear ht2 hn2))
  go_ret
  exact ⟨rfl, HT2.out, (Only.of_below HW.out).trans (HN2.out.mono (fun k _ q => q))⟩
theorem step0_0 (r : List UInt8) (P Q base : Nat) (kd who pn dr f0 f1 : Int) (tx k1 k2 : ByteArray) (cut : Bool) (w : World) (h : TwoX r w P Q base) (hpn : (-9223372036854775808 ≤ pn ∧ pn ≤ 9223372036854775807)) (hdr : (-9223372036854775808 ≤ dr ∧ dr ≤ 9223372036854775807)) (hf0 : (-9223372036854775808 ≤ f0 ∧ f0 ≤ 9223372036854775807)) (hf1 : (-9223372036854775808 ≤ f1 ∧ f1 ≤ 9223372036854775807)) (ht : tx.size ≤ maxLen) (hk1 : k1.size ≤ maxLen) (hk2 : k2.size ≤ maxLen) (hwho : ¬ bits .and .i64 who 1 = 1) (hkd : kd ≠ 1) (hkd2 : kd ≠ 2) :
    Calls Try.prog 20 #[.pointer (some ⟨P, 0, none⟩), .pointer (some ⟨Q, 0, none⟩), .agg #[.int .i64 kd, .int .i64 who, .int .i64 pn, .int .i64 dr, .string tx, .bool cut, .int .i64 f0, .int .i64 f1, .string k1, .string k2]] w fun e w' => e = .returned (.bool true) ∧ TwoX r w' P Q base ∧ Only (MaySet P Q base) w w' := by
  have n1 : (kd == 1) = false := by rw [beq_eq_false_iff_ne]; exact hkd
  have n2 : (kd == 2) = false := by rw [beq_eq_false_iff_ne]; exact hkd2
  clear hkd hkd2
  go_enter Try.func20, Try.ntmps20
  go_upto_region 1 with fail
  obtain ⟨ob, eob⟩ : ∃ ob, ob = Obj.cells #[.int .i64 kd, .int .i64 who, .int .i64 pn, .int .i64 dr, .string tx, .bool cut, .int .i64 f0, .int .i64 f1, .string k1, .string k2] 34 := ⟨_, rfl⟩
  rw [← eob]; have hO := heap_alloc_new w ob; have hW : Below w.heap.size w (w.alloc ob) := (Below.refl _ _).alloc (Nat.le_refl _) _
  generalize (w.alloc ob) = wa at hO hW ⊢
  subst eob; have HT : Hid (TwoX r wa P Q base) := (h).next hW; have HW := hid hW; obtain ⟨o0, o1, o2, o3, o4, o5, o6, o7, o8, o9⟩ := cells10 hO; clear hO hW h; go_wp2; go_ret; exact ⟨rfl, HT.out, Only.of_below HW.out⟩
theorem step1_1 (r : List UInt8) (P Q base : Nat) (kd who pn dr f0 f1 : Int) (tx k1 k2 : ByteArray) (cut : Bool) (w : World) (h : TwoX r w P Q base) (hpn : (-9223372036854775808 ≤ pn ∧ pn ≤ 9223372036854775807)) (hdr : (-9223372036854775808 ≤ dr ∧ dr ≤ 9223372036854775807)) (hf0 : (-9223372036854775808 ≤ f0 ∧ f0 ≤ 9223372036854775807)) (hf1 : (-9223372036854775808 ≤ f1 ∧ f1 ≤ 9223372036854775807)) (ht : tx.size ≤ maxLen) (hk1 : k1.size ≤ maxLen) (hk2 : k2.size ≤ maxLen) (hwho : bits .and .i64 who 1 = 1) (hkd : kd = 1) :
    Calls Try.prog 20 #[.pointer (some ⟨P, 0, none⟩), .pointer (some ⟨Q, 0, none⟩), .agg #[.int .i64 kd, .int .i64 who, .int .i64 pn, .int .i64 dr, .string tx, .bool cut, .int .i64 f0, .int .i64 f1, .string k1, .string k2]] w fun e w' => e = .returned (.bool true) ∧ TwoX r w' P Q base ∧ Only (MaySet P Q base) w w' := by
  have c1 : ∀ w, TwoX r w Q P base → Calls Try.prog 17 #[.pointer (some ⟨Q, 0, none⟩), .agg #[.int .i64 kd, .int .i64 who, .int .i64 pn, .int .i64 dr, .string tx, .bool cut, .int .i64 f0, .int .i64 f1, .string k1, .string k2]] w fun e w' => e = .returned (.bool true) ∧ TwoX r w' Q P base ∧ Only (MaySet Q P base) w w' := fun w h => by
    obtain ⟨a, s, t, pes, pet, vks, vkt, vls, vlt, Ls, Lt, ds, dt, ks, kt, h⟩ := h; exact pwrite_any h kd who pn dr f0 f1 tx k1 k2 cut ht hf0 hf1 hk1 hk2
  have n1 : (kd == 1) = true := by rw [beq_iff_eq]; exact hkd
  clear hkd
  go_enter Try.func20, Try.ntmps20
  go_upto_region 1 with fail
  obtain ⟨ob, eob⟩ : ∃ ob, ob = Obj.cells #[.int .i64 kd, .int .i64 who, .int .i64 pn, .int .i64 dr, .string tx, .bool cut, .int .i64 f0, .int .i64 f1, .string k1, .string k2] 34 := ⟨_, rfl⟩
  rw [← eob]; have hO := heap_alloc_new w ob; have hW : Below w.heap.size w (w.alloc ob) := (Below.refl _ _).alloc (Nat.le_refl _) _
  generalize (w.alloc ob) = wa at hO hW ⊢
  subst eob; have HT : Hid (TwoX r wa Q P base) := (h.symm).next hW; have HW := hid hW; obtain ⟨o0, o1, o2, o3, o4, o5, o6, o7, o8, o9⟩ := cells10 hO; clear hO hW h
  go_wp2_with (first | (go_at_call 17; (with_reducible refine (c1 _ HT.out).mono ?_); rintro e w2 ⟨rfl, ht2, hn2⟩; have HT2 := hid ht2; have HN2 := hid hn2; clear ht2 hn2))
  go_ret
  exact ⟨rfl, HT2.out.symm, (Only.of_below HW.out).trans (HN2.out.mono (fun k _ q => by rcases q with q | q | q; exact .inr (.inl q); exact .inl q; exact .inr (.inr q)))⟩
theorem step1_2 (r : List UInt8) (P Q base : Nat) (kd who pn dr f0 f1 : Int) (tx k1 k2 : ByteArray) (cut : Bool) (w : World) (h : TwoX r w P Q base) (hpn : (-9223372036854775808 ≤ pn ∧ pn ≤ 9223372036854775807)) (hdr : (-9223372036854775808 ≤ dr ∧ dr ≤ 9223372036854775807)) (hf0 : (-9223372036854775808 ≤ f0 ∧ f0 ≤ 9223372036854775807)) (hf1 : (-9223372036854775808 ≤ f1 ∧ f1 ≤ 9223372036854775807)) (ht : tx.size ≤ maxLen) (hk1 : k1.size ≤ maxLen) (hk2 : k2.size ≤ maxLen) (hwho : bits .and .i64 who 1 = 1) (hkd : kd = 2) :
    Calls Try.prog 20 #[.pointer (some ⟨P, 0, none⟩), .pointer (some ⟨Q, 0, none⟩), .agg #[.int .i64 kd, .int .i64 who, .int .i64 pn, .int .i64 dr, .string tx, .bool cut, .int .i64 f0, .int .i64 f1, .string k1, .string k2]] w fun e w' => e = .returned (.bool true) ∧ TwoX r w' P Q base ∧ Only (MaySet P Q base) w w' := by
  have c1 : ∀ w, TwoX r w Q P base → Calls Try.prog 18 #[.pointer (some ⟨Q, 0, none⟩), .pointer (some ⟨P, 0, none⟩), .agg #[.int .i64 kd, .int .i64 who, .int .i64 pn, .int .i64 dr, .string tx, .bool cut, .int .i64 f0, .int .i64 f1, .string k1, .string k2]] w fun e w' => e = .returned (.bool true) ∧ TwoX r w' Q P base ∧ Only (MaySet Q P base) w w' := fun w h => by
    obtain ⟨a, s, t, pes, pet, vks, vkt, vls, vlt, Ls, Lt, ds, dt, ks, kt, h⟩ := h; exact ptake_any h kd who pn dr f0 f1 tx k1 k2 cut hpn hdr hf0 hf1 hk1 hk2
  have n1 : (kd == 1) = false := by rw [beq_eq_false_iff_ne]; omega
  have n2 : (kd == 2) = true := by rw [beq_iff_eq]; exact hkd
  clear hkd
  go_enter Try.func20, Try.ntmps20
  go_upto_region 1 with fail
  obtain ⟨ob, eob⟩ : ∃ ob, ob = Obj.cells #[.int .i64 kd, .int .i64 who, .int .i64 pn, .int .i64 dr, .string tx, .bool cut, .int .i64 f0, .int .i64 f1, .string k1, .string k2] 34 := ⟨_, rfl⟩
  rw [← eob]; have hO := heap_alloc_new w ob; have hW : Below w.heap.size w (w.alloc ob) := (Below.refl _ _).alloc (Nat.le_refl _) _
  generalize (w.alloc ob) = wa at hO hW ⊢
  subst eob; have HT : Hid (TwoX r wa Q P base) := (h.symm).next hW; have HW := hid hW; obtain ⟨o0, o1, o2, o3, o4, o5, o6, o7, o8, o9⟩ := cells10 hO; clear hO hW h
  go_wp2_with (first | (go_at_call 18; (with_reducible refine (c1 _ HT.out).mono ?_); rintro e w2 ⟨rfl, ht2, hn2⟩; have HT2 := hid ht2; have HN2 := hid hn2; clear ht2 hn2))
  go_ret
  exact ⟨rfl, HT2.out.symm, (Only.of_below HW.out).trans (HN2.out.mono (fun k _ q => by rcases q with q | q | q; exact .inr (.inl q); exact .inl q; exact .inr (.inr q)))⟩
theorem step1_0 (r : List UInt8) (P Q base : Nat) (kd who pn dr f0 f1 : Int) (tx k1 k2 : ByteArray) (cut : Bool) (w : World) (h : TwoX r w P Q base) (hpn : (-9223372036854775808 ≤ pn ∧ pn ≤ 9223372036854775807)) (hdr : (-9223372036854775808 ≤ dr ∧ dr ≤ 9223372036854775807)) (hf0 : (-9223372036854775808 ≤ f0 ∧ f0 ≤ 9223372036854775807)) (hf1 : (-9223372036854775808 ≤ f1 ∧ f1 ≤ 9223372036854775807)) (ht : tx.size ≤ maxLen) (hk1 : k1.size ≤ maxLen) (hk2 : k2.size ≤ maxLen) (hwho : bits .and .i64 who 1 = 1) (hkd : kd ≠ 1) (hkd2 : kd ≠ 2) :
    Calls Try.prog 20 #[.pointer (some ⟨P, 0, none⟩), .pointer (some ⟨Q, 0, none⟩), .agg #[.int .i64 kd, .int .i64 who, .int .i64 pn, .int .i64 dr, .string tx, .bool cut, .int .i64 f0, .int .i64 f1, .string k1, .string k2]] w fun e w' => e = .returned (.bool true) ∧ TwoX r w' P Q base ∧ Only (MaySet P Q base) w w' := by
  have n1 : (kd == 1) = false := by rw [beq_eq_false_iff_ne]; exact hkd
  have n2 : (kd == 2) = false := by rw [beq_eq_false_iff_ne]; exact hkd2
  clear hkd hkd2
  go_enter Try.func20, Try.ntmps20
  go_upto_region 1 with fail
  obtain ⟨ob, eob⟩ : ∃ ob, ob = Obj.cells #[.int .i64 kd, .int .i64 who, .int .i64 pn, .int .i64 dr, .string tx, .bool cut, .int .i64 f0, .int .i64 f1, .string k1, .string k2] 34 := ⟨_, rfl⟩
  rw [← eob]; have hO := heap_alloc_new w ob; have hW : Below w.heap.size w (w.alloc ob) := (Below.refl _ _).alloc (Nat.le_refl _) _
  generalize (w.alloc ob) = wa at hO hW ⊢
  subst eob; have HT : Hid (TwoX r wa Q P base) := (h.symm).next hW; have HW := hid hW; obtain ⟨o0, o1, o2, o3, o4, o5, o6, o7, o8, o9⟩ := cells10 hO; clear hO hW h; go_wp2; go_ret; exact ⟨rfl, HT.out.symm, Only.of_below HW.out⟩
theorem keepStep_any (r : List UInt8) (P Q base : Nat) (kd who pn dr f0 f1 : Int) (tx k1 k2 : ByteArray) (cut : Bool) (w : World) (h : TwoX r w P Q base) (hpn : (-9223372036854775808 ≤ pn ∧ pn ≤ 9223372036854775807)) (hdr : (-9223372036854775808 ≤ dr ∧ dr ≤ 9223372036854775807)) (hf0 : (-9223372036854775808 ≤ f0 ∧ f0 ≤ 9223372036854775807)) (hf1 : (-9223372036854775808 ≤ f1 ∧ f1 ≤ 9223372036854775807)) (ht : tx.size ≤ maxLen) (hk1 : k1.size ≤ maxLen) (hk2 : k2.size ≤ maxLen) :
    Calls Try.prog 20 #[.pointer (some ⟨P, 0, none⟩), .pointer (some ⟨Q, 0, none⟩), .agg #[.int .i64 kd, .int .i64 who, .int .i64 pn, .int .i64 dr, .string tx, .bool cut, .int .i64 f0, .int .i64 f1, .string k1, .string k2]] w fun e w' => e = .returned (.bool true) ∧ TwoX r w' P Q base ∧ Only (MaySet P Q base) w w' := by
  by_cases hw : bits .and .i64 who 1 = 1
  · by_cases h1 : kd = 1
    · exact step1_1 r P Q base kd who pn dr f0 f1 tx k1 k2 cut w h hpn hdr hf0 hf1 ht hk1 hk2 hw h1
    · by_cases h2 : kd = 2
      · exact step1_2 r P Q base kd who pn dr f0 f1 tx k1 k2 cut w h hpn hdr hf0 hf1 ht hk1 hk2 hw h2
      · exact step1_0 r P Q base kd who pn dr f0 f1 tx k1 k2 cut w h hpn hdr hf0 hf1 ht hk1 hk2 hw h1 h2
  · by_cases h1 : kd = 1
    · exact step0_1 r P Q base kd who pn dr f0 f1 tx k1 k2 cut w h hpn hdr hf0 hf1 ht hk1 hk2 hw h1
    · by_cases h2 : kd = 2
      · exact step0_2 r P Q base kd who pn dr f0 f1 tx k1 k2 cut w h hpn hdr hf0 hf1 ht hk1 hk2 hw h2
      · exact step0_0 r P Q base kd who pn dr f0 f1 tx k1 k2 cut w h hpn hdr hf0 hf1 ht hk1 hk2 hw h1 h2
structure StepM where
  kd : Int
  who : Int
  pn : Int
  dr : Int
  tx : ByteArray
  cut : Bool
  f0 : Int
  f1 : Int
  k1 : ByteArray
  k2 : ByteArray
def stepZ : StepM := ⟨0, 0, 0, 0, ⟨#[]⟩, false, 0, 0, ⟨#[]⟩, ⟨#[]⟩⟩
def stepC (o : StepM) : List Value := [.int .i64 o.kd, .int .i64 o.who, .int .i64 o.pn, .int .i64 o.dr, .string o.tx, .bool o.cut, .int .i64 o.f0, .int .i64 o.f1, .string o.k1, .string o.k2]
structure StepOk (o : StepM) : Prop where
  pn : (-9223372036854775808 ≤ o.pn ∧ o.pn ≤ 9223372036854775807)
  dr : (-9223372036854775808 ≤ o.dr ∧ o.dr ≤ 9223372036854775807)
  f0 : (-9223372036854775808 ≤ o.f0 ∧ o.f0 ≤ 9223372036854775807)
  f1 : (-9223372036854775808 ≤ o.f1 ∧ o.f1 ≤ 9223372036854775807)
  tx : o.tx.size ≤ maxLen
  k1 : o.k1.size ≤ maxLen
  k2 : o.k2.size ≤ maxLen
def StepsAt (w : World) (v : Value) (l : List StepM) : Prop := (l = [] ∧ ∃ a c, v = .slice a 0 c) ∨ ∃ b off cap, v = .slice (some ⟨b, off, none⟩) l.length cap ∧ b < w.heap.size ∧ ∀ i, i < l.length → ∀ j, j < 10 → w.cell? ⟨b, off + i * 10 + j, none⟩ = (stepC (l.getD i stepZ))[j]?
theorem StepsAt.form {w : World} {v : Value} {l : List StepM} (h : StepsAt w v l) : ∃ a c, v = .slice a l.length c := by
  rcases h with ⟨h1, a, c, h2⟩ | ⟨b, off, cap, h1, _⟩
  · exact ⟨a, c, by rw [h1, h2]; rfl⟩
  · exact ⟨_, _, h1⟩
theorem StepsAt.only {S : Nat → Prop} {w w' : World} {v : Value} {l : List StepM} (h : StepsAt w v l) (ho : Only S w w') (hs : l ≠ [] → ∀ k, v.ownBlock = some k → ¬ S k) : StepsAt w' v l := by
  rcases h with h | ⟨b, off, cap, h1, h2, h3⟩
  · exact .inl h
  · by_cases hne : l = []
    · exact .inl ⟨hne, _, _, by rw [h1, hne]; rfl⟩
    have hb := ho.block b h2 (hs hne b (by rw [h1]; rfl))
    refine .inr ⟨b, off, cap, h1, Nat.lt_of_lt_of_le h2 ho.size, fun i hi j hj => ?_⟩
    have := h3 i hi j hj
    unfold World.cell? at this ⊢
    rw [hb]; exact this
theorem StepsAt.next {w w' : World} {v : Value} {l : List StepM} (h : StepsAt w v l) (hb : Below w.heap.size w w') : StepsAt w' v l := h.only (S := fun _ => False) (Only.of_below hb) (fun _ _ _ q => q)
theorem StepsAt.lt {w : World} {v : Value} {l : List StepM} (h : StepsAt w v l) (hn : l ≠ []) {k : Nat} (hk : v.ownBlock = some k) : k < w.heap.size := by
  rcases h with ⟨q, _⟩ | ⟨b, off, cap, h1, h2, _⟩
  · exact absurd q hn
  · rw [h1] at hk
    have : b = k := Option.some.inj hk
    omega
theorem begun_two (u0 u1 u2 u3 u4 u5 u6 : Int) (u7 : ByteArray) (w : World) (h0 : (-9223372036854775808 ≤ u0 ∧ u0 ≤ 9223372036854775807)) (h1 : (-9223372036854775808 ≤ u1 ∧ u1 ≤ 9223372036854775807)) (h2 : (-9223372036854775808 ≤ u2 ∧ u2 ≤ 9223372036854775807)) (h3 : (-9223372036854775808 ≤ u3 ∧ u3 ≤ 9223372036854775807)) (h4 : (-9223372036854775808 ≤ u4 ∧ u4 ≤ 9223372036854775807)) (h5 : (-9223372036854775808 ≤ u5 ∧ u5 ≤ 9223372036854775807)) (h6 : (-9223372036854775808 ≤ u6 ∧ u6 ≤ 9223372036854775807)) (h7 : u7.size ≤ maxLen) :
    Calls Try.prog 7 #[.agg #[.int .i64 u0, .int .i64 u1, .int .i64 u2, .int .i64 u3, .int .i64 u4, .int .i64 u5, .int .i64 u6, .string u7]] w fun e w' => (∃ P Q : Nat, e = .returned (.tuple #[.pointer (some ⟨P, 0, none⟩), .pointer (some ⟨Q, 0, none⟩), .bool true]) ∧ w.heap.size ≤ P ∧ P < Q ∧ Q < w'.heap.size ∧ TwoX (sizedL u7.data.toList 8) w' P Q (Q + 1)) ∧ Below w.heap.size w w' := by
  obtain ⟨cp0, cp1⟩ := pickN_bd u1 31 (by omega)
  obtain ⟨ca, hca⟩ := Int.eq_ofNat_of_zero_le cp0
  obtain ⟨cq0, cq1⟩ := pickN_bd u3 31 (by omega)
  obtain ⟨cb, hcb⟩ := Int.eq_ofNat_of_zero_le cq0
  obtain ⟨sp0, sp1⟩ := pickN_bd u0 13 (by omega)
  obtain ⟨sq0, sq1⟩ := pickN_bd u2 13 (by omega)
  obtain ⟨ha1, ha2⟩ := creA_ok u0 u1 u2 u3 u4 u5 u6 u7 ca hca; obtain ⟨hb1, hb2⟩ := creB_ok u0 u1 u2 u3 u4 u5 u6 u7 cb hcb; obtain ⟨ka, gA, eA⟩ := madeA_good u0 u4 u5 u6 u7.data.toList ca ha1 ha2; obtain ⟨kb, gB, eB⟩ := madeB_good u2 u5 u6 u7.data.toList cb hb1 hb2; have hs4 := secN_sec u4; have hs5 := secN_sec u5; have n4 : (((secN u4).toNat : Nat) : Int) = secN u4 := sec_nat hs4; have n5 : (((secN u5).toNat : Nat) : Int) = secN u5 := sec_nat hs5
  refine (begun_any u0 u1 u2 u3 u4 u5 u6 u7 ca cb w h0 h1 h2 h3 h4 h5 h6 h7 hca hcb).mono ?_
  rintro e w' ⟨⟨P, Q, he, hPw, hPQ, hQw, hP, hQ⟩, hb⟩
  refine ⟨⟨P, Q, he, hPw, hPQ, hQw, ?_⟩, hb⟩
  generalize creTo (List.replicate (blankK ca u6 * 32) (0 : UInt8)) 0 (pickN u0 13) (ca : Int) (shOut (secN u5) 7) (sizedL u7.data.toList 8) (secN u4) = da at *
  generalize creTo (List.replicate (blankK cb u6 * 32) (0 : UInt8)) 1 (pickN u2 13) (cb : Int) 0 (sizedL u7.data.toList 8) (secN u5) = db at *
  have lA := (good_lawQ gA).1; have lB := (good_lawQ gB).1
  rw [eA] at lA
  rw [eB] at lB
  have hk := keep_new (sizedL u7.data.toList 8) (pickN u0 13).toNat ca (pickN u2 13).toNat cb (secN u5).toNat (secN u4).toNat (by rw [n5]; exact hs5) (by rw [n4]; exact hs4) lA lB
  have qA : newS 0 (pickN u0 13).toNat ca (pwN 7 (secN u5).toNat) (sizedL u7.data.toList 8) (secN u4).toNat = { role := 0, step := 1, sent := 0, got := 0, prev := 0, skip := (pickN u0 13).toNat, cap := ca, root := rootL (sizedL u7.data.toList 8) (pwN (pwN 7 (secN u5).toNat) (secN u4).toNat), out := chainL (sizedL u7.data.toList 8) (pwN (pwN 7 (secN u5).toNat) (secN u4).toNat), inn := noneL, secret := (secN u4).toNat, peer := pwN 7 (secN u5).toNat, kept := [] } := by rw [newS, if_neg (by omega)]
  have qB : newS 1 (pickN u2 13).toNat cb 0 (sizedL u7.data.toList 8) (secN u5).toNat = { role := 1, step := 0, sent := 0, got := 0, prev := 0, skip := (pickN u2 13).toNat, cap := cb, root := sizedL u7.data.toList 8, out := noneL, inn := noneL, secret := (secN u5).toNat, peer := 0, kept := [] } := by rw [newS, if_pos rfl]
  rw [qA] at hk eA
  rw [qB] at hk eB
  have m0 : (((pickN u0 13).toNat : Nat) : Int) = pickN u0 13 := Int.toNat_of_nonneg sp0; have m2 : (((pickN u2 13).toNat : Nat) : Int) = pickN u2 13 := Int.toNat_of_nonneg sq0
  refine ⟨a01 (secN u5).toNat (secN u4).toNat, _, _, secN u5, 0, .slice none 0 0, .slice none 0 0, .slice none 0 0, .slice none 0 0, [], [], da, db, ka, kb, ⟨⟨?_, .inl ⟨rfl, none, 0, rfl⟩, World.ownsRow_nil _ _ _ _, gA, eA⟩, ⟨?_, .inl ⟨rfl, none, 0, rfl⟩, World.ownsRow_nil _ _ _ _, gB, eB⟩, hk, ?_, rfl, fun hn => absurd rfl hn, fun hn => absurd rfl hn, fun k hk => (by cases hk), by omega, by omega, by omega, by omega⟩⟩
  · rw [pcells]
    show _ = some (Obj.cells #[.string (str da), .int .i64 0, .int .i64 1, .int .i64 0, .int .i64 0, .int .i64 0, .int .i64 (((pickN u0 13).toNat : Nat) : Int), .int .i64 ca, .int .i64 (((secN u4).toNat : Nat) : Int), .int .i64 (secN u5), .slice none 0 0, .slice none 0 0] _)
    rw [m0, n4]; exact hP
  · rw [pcells]
    show _ = some (Obj.cells #[.string (str db), .int .i64 1, .int .i64 0, .int .i64 0, .int .i64 0, .int .i64 0, .int .i64 (((pickN u2 13).toNat : Nat) : Int), .int .i64 cb, .int .i64 (((secN u5).toNat : Nat) : Int), .int .i64 0, .slice none 0 0, .slice none 0 0] _)
    rw [m2, n5]; exact hQ
  · show secN u5 = if (1 : Nat) = 0 then 0 else ((a01 (secN u5).toNat (secN u4).toNat (1 - 1) : Nat) : Int)
    rw [if_neg (by omega)]
    show secN u5 = (((secN u5).toNat : Nat) : Int)
    rw [n5]
open Go.ChangeShapes Go.WideShapes Go.ChangeAt Go.RowKit Go.Deep
theorem Try.cellsStep : Try.prog.cellsOf 34 = 10 := by kernel_rfl
theorem Try.cellsIntS : Try.prog.cellsOf 3 = 1 := by kernel_rfl
theorem Try.cellsStrS : Try.prog.cellsOf 9 = 1 := by kernel_rfl
theorem Try.cellsBoolS : Try.prog.cellsOf 4 = 1 := by kernel_rfl
theorem Try.cellsFail : Try.prog.cellsOf 32 = 4 := by kernel_rfl
theorem ten_of {α : Type} (l : List α) (h : l.length = 10) : ∃ c0 c1 c2 c3 c4 c5 c6 c7 c8 c9, l = [c0, c1, c2, c3, c4, c5, c6, c7, c8, c9] := by
  match l, h with
  | [c0, c1, c2, c3, c4, c5, c6, c7, c8, c9], _ => exact ⟨c0, c1, c2, c3, c4, c5, c6, c7, c8, c9, rfl⟩
instance : Inhabited StepM := ⟨stepZ⟩
theorem some_ofS {α : Type} {o : Option α} {l : List α} {i : Nat} (h : o = l[i]?) (hi : i < l.length) : ∃ x, o = some x := ⟨l[i], by rw [h, List.getElem?_eq_getElem hi]⟩
theorem fail_cells {H : Type} {enc : TypeId × Value → H} {W : World} {sp : Nat → Bool} {held : Bool} {n : Nat} {c0 c1 c2 c3 : Value} {x : DataW H × List MemPlace} (h : DataW.trod enc Try.prog W 0 sp held n 32 [c0, c1, c2, c3] = some x) :
    ∃ (f0 f1 : Int) (k1 k2 : ByteArray), c0 = .int .i64 f0 ∧ c1 = .int .i64 f1 ∧ c2 = .string k1 ∧ c3 = .string k2 ∧ (Lit.int .i64 f0).wf = true ∧ (Lit.int .i64 f1).wf = true ∧ k1.size ≤ maxLen ∧ k2.size ≤ maxLen := by
  obtain ⟨xs, m, rfl, hx, hl, hlen, hg⟩ := DataW.trod_struct Try.underlying32 h; have hlen4 : xs.length = 4 := hlen
  obtain ⟨y0, g0⟩ := some_ofS (hg 0 _ rfl) (by omega)
  obtain ⟨y1, g1⟩ := some_ofS (hg 1 _ rfl) (by omega)
  obtain ⟨y2, g2⟩ := some_ofS (hg 2 _ rfl) (by omega)
  obtain ⟨y3, g3⟩ := some_ofS (hg 3 _ rfl) (by omega)
  obtain ⟨f0, e0, _, w0⟩ := DataW.trod_int Try.underlying3 g0; obtain ⟨f1, e1, _, w1⟩ := DataW.trod_int Try.underlying3 g1; obtain ⟨k1, e2, _, w2⟩ := DataW.trod_string Try.underlying9 g2; obtain ⟨k2, e3, _, w3⟩ := DataW.trod_string Try.underlying9 g3
  refine ⟨f0, f1, k1, k2, ?_, ?_, ?_, ?_, w0, w1, w2, w3⟩
  · simpa [Try.cellsIntS] using e0
  · simpa [Try.cellsIntS] using e1
  · simpa [Try.cellsStrS] using e2
  · simpa [Try.cellsStrS] using e3
theorem step_cells {H : Type} {enc : TypeId × Value → H} {W : World} {sp : Nat → Bool} {held : Bool} {n : Nat} {cs : List Value} {x : DataW H × List MemPlace} (h : DataW.trod enc Try.prog W 0 sp held n 34 cs = some x) :
    ∃ o : StepM, cs = stepC o ∧ StepOk o := by
  obtain ⟨xs, m, rfl, hx, hl, hlen, hg⟩ := DataW.trod_struct Try.underlying34 h
  rw [Try.cellsStep] at hl
  obtain ⟨c0, c1, c2, c3, c4, c5, c6, c7, c8, c9, rfl⟩ := ten_of cs hl; have hlen7 : xs.length = 7 := hlen
  obtain ⟨y0, g0⟩ := some_ofS (hg 0 _ rfl) (by omega)
  obtain ⟨y1, g1⟩ := some_ofS (hg 1 _ rfl) (by omega)
  obtain ⟨y2, g2⟩ := some_ofS (hg 2 _ rfl) (by omega)
  obtain ⟨y3, g3⟩ := some_ofS (hg 3 _ rfl) (by omega)
  obtain ⟨y4, g4⟩ := some_ofS (hg 4 _ rfl) (by omega)
  obtain ⟨y5, g5⟩ := some_ofS (hg 5 _ rfl) (by omega)
  obtain ⟨y6, g6⟩ := some_ofS (hg 6 _ rfl) (by omega)
  obtain ⟨kd, e0, _, w0⟩ := DataW.trod_int Try.underlying3 g0; obtain ⟨who, e1, _, w1⟩ := DataW.trod_int Try.underlying3 g1; obtain ⟨pn, e2, _, w2⟩ := DataW.trod_int Try.underlying3 g2; obtain ⟨dr, e3, _, w3⟩ := DataW.trod_int Try.underlying3 g3; obtain ⟨tx, e4, _, w4⟩ := DataW.trod_string Try.underlying9 g4; obtain ⟨cut, e5, _⟩ := DataW.trod_bool Try.underlying4 g5
  have g6' : DataW.trod enc Try.prog W 0 sp held m 32 [c6, c7, c8, c9] = some y6 := by simpa [Try.cellsFail] using g6
  obtain ⟨f0, f1, k1, k2, q0, q1, q2, q3, z0, z1, z2, z3⟩ := fail_cells g6'
  have e0' : c0 = .int .i64 kd := by simpa [Try.cellsIntS] using e0
  have e1' : c1 = .int .i64 who := by simpa [Try.cellsIntS] using e1
  have e2' : c2 = .int .i64 pn := by simpa [Try.cellsIntS] using e2
  have e3' : c3 = .int .i64 dr := by simpa [Try.cellsIntS] using e3
  have e4' : c4 = .string tx := by simpa [Try.cellsStrS] using e4
  have e5' : c5 = .bool cut := by simpa [Try.cellsBoolS] using e5
  exact ⟨⟨kd, who, pn, dr, tx, cut, f0, f1, k1, k2⟩, by rw [e0', e1', e2', e3', e4', e5', q0, q1, q2, q3]; rfl, ⟨wf_i64 w2, wf_i64 w3, wf_i64 z0, wf_i64 z1, w4, z2, z3⟩⟩
theorem steps_arg {H : Type} {enc : TypeId × Value → H} {W : World} {base : Nat} {v : Value} {d : DataW H} {p : List MemPlace} (hok : Value.okWide Try.prog W .any base 24 v) (h : DataW.Trod enc Try.prog W 0 (fun _ => true) true 24 v d p) :
    ∃ l : List StepM, StepsAt W v l ∧ (∀ o ∈ l, StepOk o) ∧ ((d = .nil ∧ l = []) ∨ ∃ es sp, d = .slice es sp ∧ l.length ≤ es.length + sp.length) := by
  obtain ⟨a0, len, cap, rfl⟩ := okWide_slice Try.underlying24 hok; obtain ⟨fuel, hf⟩ := h
  rcases open_slice Try.underlying24 hf with ⟨hcs, hx⟩ | ⟨a, len', cap', m, n, D, Pl, hcs, _, hl, hm, hmm, hx, hel⟩
  · simp [Value.cells] at hcs
    obtain ⟨rfl, rfl, rfl⟩ := hcs
    simp only [Prod.mk.injEq] at hx
    exact ⟨[], .inl ⟨rfl, none, 0, rfl⟩, fun x hx => by simp at hx, .inl ⟨hx.1, rfl⟩⟩
  · simp [Value.cells] at hcs
    obtain ⟨rfl, rfl, rfl⟩ := hcs
    simp only [Prod.mk.injEq] at hx
    have hlm : len ≤ m := by rw [hmm]; split <;> omega
    rw [Try.cellsStep] at hel
    obtain ⟨f, hf2⟩ := choose_lt (α := StepM) (n := len) (p := fun i o => W.cells? 0 (a.add (i * 10)) 10 = some (stepC o) ∧ StepOk o) (fun i hi => by
      obtain ⟨cs', h1, h2⟩ := hel i (by omega)
      obtain ⟨o, ho, hoo⟩ := step_cells h2
      exact ⟨o, by rw [h1, ho], hoo⟩)
    have hlen : ((List.range len).map f).length = len := by simp
    have hgd : ∀ i, i < len → ((List.range len).map f).getD i stepZ = f i := fun i hi => by
      rw [List.getD_eq_getElem?_getD, List.getElem?_map, List.getElem?_range hi]; rfl
    refine ⟨(List.range len).map f, ?_, ?_, .inr ⟨_, _, hx.1, ?_⟩⟩
    · by_cases h0 : len = 0
      · subst h0; exact .inl ⟨rfl, _, _, rfl⟩
      · right
        obtain ⟨_, _, hc0⟩ := World.cells?_some (hf2 0 (by omega)).1
        have hcell0 := hc0 0 (by omega)
        obtain ⟨b, off, spot⟩ := a
        have hsp0 : ((⟨b, off, spot⟩ : Addr).add (0 * 10)).add 0 = ⟨b, off, spot⟩ := by simp [Addr.add]
        rw [hsp0] at hcell0
        have hcell1 : W.cell? ⟨b, off, spot⟩ = some (.int .i64 (f 0).kd) := hcell0
        have hspot : spot = none := World.cell?_spot hcell1
        subst hspot
        refine ⟨b, off, cap, by rw [hlen], ?_, fun i hi j hj => ?_⟩
        · rcases Nat.lt_or_ge b W.heap.size with q | q
          · exact q
          · unfold World.cell? at hcell1
            rw [Array.getElem?_eq_none (by exact q)] at hcell1
            simp at hcell1
        · rw [hlen] at hi
          obtain ⟨_, _, hc⟩ := World.cells?_some (hf2 i hi).1
          have := hc j hj
          rw [add_add, add_plain, ← Nat.add_assoc] at this
          rw [hgd i hi, this]
    · intro o ho
      obtain ⟨i, hi, rfl⟩ := List.mem_map.1 ho; exact (hf2 i (List.mem_range.1 hi)).2
    · simp
end Go.Proofs.Ytabpkohcimiceab
