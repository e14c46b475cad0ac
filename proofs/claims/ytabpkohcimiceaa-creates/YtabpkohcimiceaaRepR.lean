import Derived.Test.YtabpkohcimiceaaHeldT
import Derived.Test.YtabpkohcimiceaaHeldU
import Derived.Test.YtabpkohcimiceaaHeldV
import Derived.Test.YtabpkohcimiceaaHeldW
import Derived.WalkKit
import Derived.WalkSpells
import Derived.WalkLawsBesides
import Derived.BigRegion
namespace Go.Proofs.Ytabpkohcimiceaa
open Go.RowKit
set_option linter.unusedVariables false

def HeldAll (d : List UInt8) (base : Nat) (w' : World) (e : Ending) : Prop :=
  (heldOk d ∧ ∃ v, e = .returned (.tuple #[.agg (stCells (heldS d) v), .int .i64 (liveL d : Int), .bool true]) ∧ w'.ownsRow base 168 3 v (heldS d).kept.length (entsCells (heldS d).kept)) ∨ (¬ heldOk d ∧ HeldNo e)
theorem held_any (d : ByteArray) (w : World) (hd : 32 ≤ d.size) (hd2 : d.size ≤ 1280) :
    Calls Try.prog 90 #[.string d] w fun e w' => HeldAll d.data.toList w.heap.size w' e ∧ Below w.heap.size w w' := by
  have g4 := getD_at d 4 (by omega)
  have g5 := getD_at d 5 (by omega)
  have hdl := len_list d
  by_cases h45 : d[4].toNat ≤ 30 ∧ d[5].toNat ≤ 1
  · obtain ⟨h4, h5⟩ := h45
    by_cases ht : d.data.toList.take 32 = topL d[4].toNat d[5].toNat
    · by_cases hl : 32 + 2 * (halfN d[4].toNat * 32) ≤ d.size
      · obtain ⟨hh1, hh2, hh3⟩ := halfN_le d[4].toNat h4
        have hM : d[5].toNat * (halfN d[4].toNat * 32) + 32 + halfN d[4].toNat * 32 ≤ d.size := by
          have : d[5].toNat = 0 ∨ d[5].toNat = 1 := by omega
          rcases this with e | e <;> rw [e] <;> omega
        have hhead : headOk d.data.toList := by
          refine ⟨by omega, by rw [g4]; exact h4, by rw [g5]; exact h5, by rw [g4, g5]; exact ht, by rw [g4, hdl]; exact hl⟩
        have hside : sideOf d.data.toList = (d.extract (32 + d[5].toNat * (halfN d[4].toNat * 32)) (32 + d[5].toNat * (halfN d[4].toNat * 32) + halfN d[4].toNat * 32)).data.toList := by
          rw [sideOf, fromL, g4, g5, ext_sub, str_toList]
          congr 1; omega
        obtain ⟨t, htt⟩ : ∃ t, t = d.extract (32 + d[5].toNat * (halfN d[4].toNat * 32)) (32 + d[5].toNat * (halfN d[4].toNat * 32) + halfN d[4].toNat * 32) := ⟨_, rfl⟩
        have htz : t.size = halfN d[4].toNat * 32 := by rw [htt, ByteArray.size_extract]; omega
        rw [← htt] at hside
        have k6 := getD_at t 6 (by omega)
        have k7 := getD_at t 7 (by omega)
        have htl := len_list t
        by_cases h67 : t[6].toNat = d[4].toNat ∧ t[7].toNat ≤ d[4].toNat
        · have hok := seen_ok t.data.toList d[4].toNat (by omega) h4 (by rw [k7]; exact h67.2)
          have hs := held_seen d w hd hd2 h4 h5 ht hl _ rfl (seenS t.data.toList d[4].toNat) hok (by
            intro w
            rw [← htt]
            exact seen_any t d[4].toNat w (by omega) (by omega) (by omega) h4 h67.1 h67.2)
          refine hs.mono ?_
          rintro e w' ⟨h, hb⟩
          refine ⟨?_, hb⟩
          rw [← htt] at h
          have hS : heldS d.data.toList = seenS t.data.toList d[4].toNat := by rw [heldS, g4, hside]
          have hLv : liveL d.data.toList = d[5].toNat := by rw [liveL, g5]
          have hiff : heldOk d.data.toList ↔ (lawfulL (seenS t.data.toList d[4].toNat) = true ∧ sideL (seenS t.data.toList d[4].toNat) = t.data.toList) := by
            constructor
            · rintro ⟨_, h1, h2, h3, h5⟩
              rw [hside, g4] at h3 h5
              exact ⟨h3, h5⟩
            · rintro ⟨h3, h5⟩
              refine ⟨hhead, ?_⟩
              rw [hside, g4]
              exact ⟨by rw [k6]; exact h67.1, by rw [k7]; exact h67.2, h3, h5⟩
          rcases h with ⟨h1, h2⟩ | ⟨h1, h2⟩
          · refine .inl ⟨hiff.2 (of_decide_eq_true h1), ?_⟩
            rw [hS, hLv]; exact h2
          · exact .inr ⟨fun h => of_decide_eq_false h1 (hiff.1 h), h2⟩
        · have hs := held_unseen d w hd hd2 h4 h5 ht hl _ rfl (by
            intro w
            rw [← htt]
            exact seen_no t d[4].toNat w (by omega) (by omega) h4 h67)
          refine hs.mono ?_
          rintro e w' ⟨h, hb⟩
          refine ⟨.inr ⟨?_, h⟩, hb⟩
          rintro ⟨_, h1, h2, _⟩
          rw [hside, g4, k6] at h1
          rw [hside, g4, k7] at h2
          exact h67 ⟨h1, h2⟩
      · refine (held_len d w hd hd2 h4 h5 ht hl).mono ?_
        rintro e w' ⟨h, hb⟩
        refine ⟨.inr ⟨?_, h⟩, hb⟩
        rintro ⟨⟨_, _, _, _, h1⟩, _⟩
        rw [g4, hdl] at h1
        exact hl h1
    · refine (held_top d w hd hd2 h4 h5 ht).mono ?_
      rintro e w' ⟨h, hb⟩
      refine ⟨.inr ⟨?_, h⟩, hb⟩
      rintro ⟨⟨_, _, _, h1, _⟩, _⟩
      rw [g4, g5] at h1
      exact ht h1
  · refine (held_early d w hd hd2 h45).mono ?_
    rintro e w' ⟨h, hb⟩
    refine ⟨.inr ⟨?_, h⟩, hb⟩
    rintro ⟨⟨_, h1, h2, _⟩, _⟩
    rw [g4] at h1
    rw [g5] at h2
    exact h45 ⟨h1, h2⟩

theorem heldS_ok (d : List UInt8) (h : heldOk d) : StOk (heldS d) ∧ (heldS d).kept.length ≤ (heldS d).cap ∧ (heldS d).cap = (d.getD 4 0).toNat := by
  obtain ⟨hh, h6, h7, _⟩ := h
  have hl := sideOf_length d hh
  obtain ⟨_, h4, _⟩ := hh
  obtain ⟨_, _, h3⟩ := halfN_le _ h4
  refine ⟨seen_ok _ _ (by omega) h4 h7, ?_, rfl⟩
  show ((List.range ((sideOf d).getD 7 0).toNat).map (entAt (sideOf d))).length ≤ _
  rw [kept_len]; exact h7

set_option maxRecDepth 100000 in
set_option maxHeartbeats 2000000 in
theorem repair_any (d : ByteArray) (w : World) (hd : d.size ≤ maxLen) :
    Calls Try.prog 40 #[.string d] w fun e w' => e = .returned (.tuple #[.string (str (repairR d.data.toList).1), .int .i64 (repairR d.data.toList).2]) ∧ Below w.heap.size w w' := by
  have c1 := fun w => isDisk_any d w hd
  cases hD : isDiskL d.data.toList with
  | false =>
    have e1 : repairR d.data.toList = ([], 6) := by rw [repairR, if_neg (by rw [hD]; simp)]
    rw [e1]
    rw [hD] at c1
    clear e1
    go_enter Try.func40, Try.ntmps40
    go_wp2_with (first | (go_at_call 67; refine (c1 _).mono ?_; rintro e w' ⟨rfl, hw⟩; rw [hw]; clear hw w'))
    go_ret2
    exact ⟨rfl, Below.refl _ _⟩
  | true =>
    obtain ⟨k, hk1, hk2, hk3⟩ : ∃ k, d.size = k * 32 ∧ 1 ≤ k ∧ k ≤ 40 := by
      have h := hD
      rw [isDiskL, decide_eq_true_eq, len_list] at h
      exact ⟨d.size / 32, by omega, by omega, by omega⟩
    have hdl := len_list d
    rw [hD] at c1
    have c4 := fun w => zeros_any ((k : Int) * 32) w (by omega) (by omega)
    rw [show ((k : Int) * 32).toNat = k * 32 by omega] at c4
    obtain ⟨zz, hzz⟩ : ∃ z, z = str (List.replicate (k * 32) (0 : UInt8)) := ⟨_, rfl⟩
    have hzs : zz.size = k * 32 := by rw [hzz, str_size, List.length_replicate]
    have hbq : ((d.extract 0 32).toList == (zz.extract 0 32).toList) = decide (d.data.toList.take 32 = List.replicate 32 0) := by
      have e : zz.extract 0 32 = str (List.replicate 32 0) := by
        rw [hzz, ext_sub, str_toList, List.drop_zero, Nat.sub_zero, List.take_replicate, Nat.min_eq_left (by omega)]
      rw [e, ext_beq]
    rw [← hzz] at c4
    have i32 : (32 : Int) ≤ (k : Int) * 32 := by omega
    have n32 : 32 ≤ k * 32 := by omega
    by_cases h0 : d.data.toList.take 32 = List.replicate 32 0
    · have e1 : repairR d.data.toList = (List.replicate (k * 32) 0, 0) := by rw [repairR, if_pos hD, if_pos h0, hdl, hk1]
      rw [e1, decide_eq_true h0] at *
      have HZ : Hid (zz = str (List.replicate (k * 32) (0 : UInt8))) := hzz
      clear e1 hzz h0 hD
      go_enter Try.func40, Try.ntmps40
      go_upto_region 5 with (first | (go_at_call 67; refine (c1 _).mono ?_; rintro e w' ⟨rfl, hw⟩; rw [hw]; clear hw w') | (go_at_call 81; refine (c4 _).mono ?_; rintro e w' ⟨rfl, hw⟩; rw [hw]; clear hw w'))
      go_region
      go_wp2
      go_ret2
      refine ⟨?_, (Below.refl _ _).drew⟩
      show Ending.returned (Value.tuple #[Value.string zz, _]) = _
      rw [HZ.out]; rfl
    · rw [decide_eq_false h0] at hbq
      have c5 := fun w => held_any d w (by omega) (by omega)
      by_cases hok : heldOk d.data.toList
      · have e1 : repairR d.data.toList = (packL (heldS d.data.toList) (liveL d.data.toList) (k * 32), 0) := by rw [repairR, if_pos hD, if_neg h0, if_pos hok, hdl, hk1]
        rw [e1]
        obtain ⟨o1, o2, o3⟩ := heldS_ok _ hok
        have hlv : liveL d.data.toList ≤ 1 := hok.1.2.2.1
        have c6 : ∀ w, Calls Try.prog 90 #[.string d] w fun e w' => (∃ v, e = .returned (.tuple #[.agg (stCells (heldS d.data.toList) v), .int .i64 (liveL d.data.toList : Int), .bool true]) ∧ EntsAt w' v (heldS d.data.toList).kept) ∧ Below w.heap.size w w' := by
          intro w
          refine (c5 w).mono ?_
          rintro e w' ⟨h, hb⟩
          rcases h with ⟨_, h⟩ | ⟨h, _⟩
          · exact ⟨h.imp fun v q => ⟨q.1, EntsAt.of_own q.2⟩, hb⟩
          · exact absurd hok h
        have cst : ((k * 32 : Nat) : Int) = (k : Int) * 32 := by omega
        have c7 := fun v w h => pack_any (heldS d.data.toList) v (liveL d.data.toList) (k * 32) w o1 h (by omega) (by omega)
        rw [cst] at c7
        generalize str (packL (heldS d.data.toList) (liveL d.data.toList) (k * 32)) = pk at *
        generalize heldS d.data.toList = ss at *
        generalize liveL d.data.toList = lv at *
        have c8 : ∀ w, Calls Try.prog 90 #[.string d] w fun e w' => (∃ aa nn cc, e = .returned (.tuple #[.agg #[.int .i64 (ss.role : Int), .int .i64 (ss.step : Int), .int .i64 (ss.sent : Int), .int .i64 (ss.got : Int), .int .i64 (ss.prev : Int), .int .i64 (ss.skip : Int), .int .i64 (ss.cap : Int), .string (str ss.root), .string (str ss.out), .string (str ss.inn), .int .i64 (ss.secret : Int), .int .i64 (ss.peer : Int), .slice aa nn cc], .int .i64 (lv : Int), .bool true]) ∧ EntsAt w' (.slice aa nn cc) ss.kept) ∧ Below w.heap.size w w' := by
          intro w
          refine (c6 w).mono ?_
          rintro e w' ⟨⟨v, h1, h2⟩, hb⟩
          obtain ⟨aa, cc, hv⟩ := h2.form
          subst hv
          exact ⟨⟨_, _, _, h1, h2⟩, hb⟩
        have c9 : ∀ aa nn cc w, EntsAt w (.slice aa nn cc) ss.kept → Calls Try.prog 83 #[.agg #[.int .i64 (ss.role : Int), .int .i64 (ss.step : Int), .int .i64 (ss.sent : Int), .int .i64 (ss.got : Int), .int .i64 (ss.prev : Int), .int .i64 (ss.skip : Int), .int .i64 (ss.cap : Int), .string (str ss.root), .string (str ss.out), .string (str ss.inn), .int .i64 (ss.secret : Int), .int .i64 (ss.peer : Int), .slice aa nn cc], .int .i64 (lv : Int), .int .i64 ((k : Int) * 32)] w fun e w' => e = .returned (.string pk) ∧ Below w.heap.size w w' := fun aa nn cc w h => c7 (.slice aa nn cc) w h
        clear e1 hzz h0 hD hok c5 c6 c7 o2 o3
        go_enter Try.func40, Try.ntmps40
        go_upto_region 5 with (first | (go_at_call 67; refine (c1 _).mono ?_; rintro e w' ⟨rfl, hw⟩; rw [hw]; clear hw w') | (go_at_call 81; refine (c4 _).mono ?_; rintro e w' ⟨rfl, hw⟩; rw [hw]; clear hw w'))
        go_region
        go_wp2_with (first | (go_at_call 90; refine (c8 _).mono ?_; rintro e w2 ⟨⟨aa, nn, cc, rfl, hv⟩, hb2⟩) | (go_at_call 83; with_reducible refine (c9 _ _ _ _ (hv.next ((Below.refl _ _).alloc (Nat.le_refl _) _))).mono ?_; rintro e w3 ⟨rfl, hb3⟩))
        go_ret2
        refine ⟨rfl, ?_⟩
        exact below_tr (below_tr (below_tr (Below.refl _ _).drew hb2) ((Below.refl _ _).alloc (Nat.le_refl _) _)) hb3
      · have e1 : repairR d.data.toList = ([], 12) := by rw [repairR, if_pos hD, if_neg h0, if_neg hok]
        rw [e1]
        have c8 : ∀ w, Calls Try.prog 90 #[.string d] w fun e w' => (∃ (ss : StM) (aa : Option Addr) (nn cc : Nat) (l : Int), e = .returned (.tuple #[.agg #[.int .i64 (ss.role : Int), .int .i64 (ss.step : Int), .int .i64 (ss.sent : Int), .int .i64 (ss.got : Int), .int .i64 (ss.prev : Int), .int .i64 (ss.skip : Int), .int .i64 (ss.cap : Int), .string (str ss.root), .string (str ss.out), .string (str ss.inn), .int .i64 (ss.secret : Int), .int .i64 (ss.peer : Int), .slice aa nn cc], .int .i64 l, .bool false])) ∧ Below w.heap.size w w' := by
          intro w
          refine (c5 w).mono ?_
          rintro e w' ⟨h, hb⟩
          rcases h with ⟨h, _⟩ | ⟨_, h⟩
          · exact absurd h hok
          · exact ⟨h, hb⟩
        clear e1 hzz h0 hD hok c5
        go_enter Try.func40, Try.ntmps40
        go_upto_region 5 with (first | (go_at_call 67; refine (c1 _).mono ?_; rintro e w' ⟨rfl, hw⟩; rw [hw]; clear hw w') | (go_at_call 81; refine (c4 _).mono ?_; rintro e w' ⟨rfl, hw⟩; rw [hw]; clear hw w'))
        go_region
        go_wp2_with (first | (go_at_call 90; refine (c8 _).mono ?_; rintro e w2 ⟨⟨ss, aa, nn, cc, l, rfl⟩, hb2⟩))
        go_ret2
        refine ⟨rfl, ?_⟩
        exact below_tr (below_tr (Below.refl _ _).drew hb2) ((Below.refl _ _).alloc (Nat.le_refl _) _)
end Go.Proofs.Ytabpkohcimiceaa
