import Derived.Test.YtabpkohcimiceaaGreatRecvC
import Derived.Test.YtabpkohcimiceaaGreatOpen
import Derived.Test.YtabpkohcimiceaaGreatLaw
import Derived.Test.YtabpkohcimiceaaGreatRefY
import Derived.WalkKit
import Derived.WalkSpells
import Derived.WalkLawsBesides
import Derived.OwnWalk
namespace Go.Proofs.YtabpkohcimiceaaGreat
open Go.RowKit
set_option linter.unusedVariables false
set_option linter.unusedSimpArgs false

/-! ### pawl.Receive, pawlref.Receive: their answers -/
def recvErr (d t : List UInt8) (draw : Int) : Int := if openErr d = 0 then (if Sec draw then (if letOk t then (recvR (heldS d) (letOf t) draw.toNat).1 else 4) else 3) else openErr d
def recvS (d t : List UInt8) (draw : Int) : StM := (recvR (heldS d) (letOf t) draw.toNat).2.2
def recvTxt (d t : List UInt8) (draw : Int) : List UInt8 := if recvErr d t draw = 0 then (recvR (heldS d) (letOf t) draw.toNat).2.1 else []
def recvTo (d t : List UInt8) (draw : Int) : List UInt8 := if recvErr d t draw = 0 then packL (recvS d t draw) (1 - liveL d) d.length else []
def recvPlan (d t : List UInt8) (draw : Int) : List UInt8 := if recvErr d t draw = 0 then encL (rplR d (packL (recvS d t draw) (1 - liveL d) d.length) (heldS d).cap (liveL d)) else []
theorem recv_bd (s : StM) (l : LetM) (draw : Nat) : 0 ≤ (recvR s l draw).1 ∧ (recvR s l draw).1 ≤ 17 := by
  have hk : 0 ≤ (keyR s l draw).1 ∧ (keyR s l draw).1 ≤ 17 := by
    rw [keyR_take]
    split
    · simp
    · have : 0 ≤ (takeR s l draw).1 ∧ (takeR s l draw).1 ≤ 17 := by
        rw [takeR]
        repeat' split
        all_goals simp
      split <;> simpa using this
  rw [recvR]
  split
  · split <;> simp
  · exact hk
theorem recvErr_bd (d t : List UInt8) (draw : Int) : 0 ≤ recvErr d t draw ∧ recvErr d t draw ≤ 17 := by
  have := open_pos d
  have := recv_bd (heldS d) (letOf t) draw.toNat
  rw [recvErr]; repeat' split
  all_goals omega
/-- The box behind a letter that was taken. -/
theorem recv_law {s : StM} (h : LawQ s) (hk : Keyed s) (hn : s.kept.length ≤ 100) (l : LetM) (draw : Nat) (hl1 : 1 ≤ l.step) (hl2 : l.step ≤ 29) (hc : l.count ≤ 49) (hp : l.prev ≤ 50) (hpub : Pub (l.pub : Int)) (hd : Sec (draw : Int)) (hok : (recvR s l draw).1 = 0) :
    LawQ (recvR s l draw).2.2 ∧ Keyed (recvR s l draw).2.2 ∧ (recvR s l draw).2.2.cap = s.cap ∧ (recvR s l draw).2.2.kept.length ≤ (recvR s l draw).2.2.cap := by
  rw [recvR] at hok ⊢
  by_cases h0 : (keyR s l draw).1 = 0
  · rw [if_pos h0] at hok ⊢
    obtain ⟨a, b, c, e, f⟩ := keyR_law h hk hn l draw hl1 hl2 hc hp hpub hd h0
    by_cases ho : opensL (keyR s l draw).2.1 l.head l.body
    · rw [if_pos ho]
      obtain ⟨x, y, z⟩ := cap_law a b
      exact ⟨x, y, e, z⟩
    · rw [if_neg ho] at hok; simp at hok
  · rw [if_neg h0] at hok
    exact absurd hok h0
theorem letOk_parts {t : List UInt8} (h : letOk t) : 1 ≤ (letOf t).step ∧ (letOf t).step ≤ 29 ∧ (letOf t).count ≤ 49 ∧ (letOf t).prev ≤ 50 ∧ Pub ((letOf t).pub : Int) ∧ (letOf t).head.length = 7 ∧ 8 ≤ (letOf t).body.length ∧ (letOf t).body.length ≤ 48 := by
  obtain ⟨⟨a, b⟩, c1, c2, c3, c4, c5⟩ := h
  refine ⟨c1, c2, c3, c4, c5, ?_, ?_, ?_⟩
  · show (t.take 7).length = 7
    rw [List.length_take]; omega
  · show 8 ≤ (t.drop 7).length
    rw [List.length_drop]; omega
  · show (t.drop 7).length ≤ 48
    rw [List.length_drop]; omega
theorem recvErr_ok {d t : List UInt8} {draw : Int} (h : recvErr d t draw = 0) : openErr d = 0 ∧ Sec draw ∧ letOk t ∧ (recvR (heldS d) (letOf t) draw.toNat).1 = 0 := by
  have hp := open_pos d
  rw [recvErr] at h
  split at h
  · next h0 =>
    split at h
    · next h1 =>
      split at h
      · next h2 => exact ⟨h0, h1, h2, h⟩
      · omega
    · omega
  · next h0 => exact absurd h h0
theorem sec_nat {x : Int} (h : Sec x) : ((x.toNat : Nat) : Int) = x := Int.toNat_of_nonneg (by have := h.1; omega)
end Go.Proofs.YtabpkohcimiceaaGreat

namespace Go.Proofs.YtabpkohcimiceaaGreat
open Go.RowKit
set_option linter.unusedVariables false

/-! ### The document's answer to a letter, held against the program's: plain -/
theorem refDue_eq {s : StM} (h : LawQ s) (hk : Keyed s) (h2 : 2 ≤ s.step) (count : Nat) (hc : count ≤ 49) (hge : s.got ≤ count) :
    (refDueR s count).1 = (dueR s count).1 ∧ ((dueR s count).1 = 0 → (refDueR s count).2.1 = (dueR s count).2.1 ∧ (refDueR s count).2.2 = capS (dueR s count).2.2) := by
  rw [refDueR, dueR]
  by_cases hb : skipBad s count
  · rw [if_pos hb, if_pos hb]
    exact ⟨rfl, fun q => absurd q (by simp)⟩
  · rw [if_neg hb, if_neg hb]
    refine ⟨rfl, fun _ => ⟨rfl, ?_⟩⟩
    have hr := (due_law h hk h2 count hc hge hb).1.keys.srt
    show ({ dueS s count with kept := greatL (dueS s count).kept s.cap } : StM) = capS (dueS s count)
    rw [great_drop _ _ hr]
    rfl
theorem refTake_eq {s : StM} (h : LawQ s) (hk : Keyed s) (hn : s.kept.length ≤ s.cap) (l : LetM) (draw : Nat) (hl1 : 1 ≤ l.step) (hl2 : l.step ≤ 29) (hc : l.count ≤ 49) (hp : l.prev ≤ 50) (hpub : Pub (l.pub : Int)) (hd : Sec (draw : Int)) (hx : ¬ (s.step + 1 < l.step ∨ l.step % 2 = s.step % 2)) :
    (refTakeR s l draw).1 = (keyR s l draw).1 ∧ ((keyR s l draw).1 = 0 → (refTakeR s l draw).2.1 = (keyR s l draw).2.1 ∧ (refTakeR s l draw).2.2 = capS (keyR s l draw).2.2) := by
  rw [refTakeR, keyR, if_neg hx]
  by_cases h1 : l.step = s.step + 1
  · rw [if_pos h1, if_pos h1, refTurnR, turnR]
    by_cases h2 : 2 ≤ s.step ∧ skipBad s l.prev
    · rw [if_pos h2, if_pos h2]
      exact ⟨rfl, fun q => absurd q (by simp)⟩
    · rw [if_neg h2, if_neg h2]
      obtain ⟨e1, e2⟩ := end_law h hk l.prev hp h2
      obtain ⟨t1, t2⟩ := turn_law e1 e2 l.step l.pub draw (by rw [(endS_step s l.prev).1]; exact h1) hl2 hpub hd
      exact refDue_eq t1 t2 (by show 2 ≤ l.step + 1; omega) l.count hc (by show 0 ≤ l.count; omega)
  · rw [if_neg h1, if_neg h1]
    by_cases h2 : l.step + 1 = s.step ∧ s.got ≤ l.count
    · rw [if_pos h2, if_pos h2]
      exact refDue_eq h hk (by omega) l.count hc h2.2
    · rw [if_neg h2, if_neg h2]
      refine ⟨rfl, fun q => ⟨rfl, ?_⟩⟩
      rw [capS_id]
      rw [oldR] at q ⊢
      cases hf : s.kept.find? (isEnt l.step l.count) with
      | none => rw [hf] at q; simp at q
      | some e =>
        show (s.kept.filter _).length ≤ s.cap
        exact Nat.le_trans (List.length_filter_le _ _) hn
end Go.Proofs.YtabpkohcimiceaaGreat
