import Derived.Test.YtabpkohcimiceabGreatRefX
import Derived.Test.YtabpkohcimiceabGreatTakeA
import Derived.Lib.Strings
namespace Go.Proofs.YtabpkohcimiceabGreat
set_option maxRecDepth 100000
set_option maxHeartbeats 1000000
open Go.RowKit
set_option linter.unusedVariables false
set_option linter.unusedSimpArgs false
def TQ (r : Int × List UInt8 × StM) (base : Nat) (w' : World) (ky : ByteArray) (x : StM) (a : Option Addr) (n c : Nat) : Prop := r.1 = 0 → ky = str r.2.1 ∧ x = r.2.2 ∧ w'.ownsRow base 119 3 (.slice a n c) x.kept.length (entsCells x.kept)
def TakeRef (r : Int × List UInt8 × StM) (base : Nat) (w' : World) (e : Ending) : Prop :=
  ∃ (ky : ByteArray) (x : StM) (a : Option Addr) (n c : Nat), e = .returned (.tuple #[.string ky, .agg (stCells x (.slice a n c)), .int .i64 r.1]) ∧ TQ r base w' ky x a n c
theorem TQ.base {r : Int × List UInt8 × StM} {base b2 : Nat} {w : World} {ky : ByteArray} {x : StM} {a : Option Addr} {n c : Nat} (h : TQ r base w ky x a n c) (hb : b2 ≤ base) : TQ r b2 w ky x a n c := fun q => ⟨(h q).1, (h q).2.1, ownsRow_base (h q).2.2 hb⟩
theorem TQ.put {r : Int × List UInt8 × StM} {base b : Nat} {w : World} {ky : ByteArray} {x : StM} {a : Option Addr} {n c : Nat} (h : TQ r base w ky x a n c) (hb : b < base) (i : Nat) (v : Value) : TQ r base (w.setCell ⟨b, i, none⟩ v) ky x a n c := fun q => ⟨(h q).1, (h q).2.1, ownsRow_setCell_below (h q).2.2 (by exact hb) _⟩
theorem TQ.alloc {r : Int × List UInt8 × StM} {base : Nat} {w : World} {ky : ByteArray} {x : StM} {a : Option Addr} {n c : Nat} (h : TQ r base w ky x a n c) (o : Obj) : TQ r base (w.alloc o) ky x a n c := fun q => ⟨(h q).1, (h q).2.1, (h q).2.2.alloc o⟩
theorem TQ.drew {r : Int × List UInt8 × StM} {base : Nat} {w : World} {ky : ByteArray} {x : StM} {a : Option Addr} {n c : Nat} (h : TQ r base w ky x a n c) : TQ r base w.drew ky x a n c := h
theorem below_dn (B : Nat) (w : World) (n : Nat) : Below B w (w.drewN n) := ⟨rfl, rfl, rfl, Nat.le_refl _, fun _ _ => rfl⟩
def keyIn (st ct : Nat) (l : List EntM) : List UInt8 := ((l.filter (isEnt st ct)).getLast?.map EntM.key).getD []
theorem keyIn_push (st ct : Nat) (l : List EntM) (j : Nat) (h : j < l.length) (b : Bool) (hb : isEnt st ct (l.getD j default) = b) : keyIn st ct (l.take (j + 1)) = if b = true then (l.getD j default).key else keyIn st ct (l.take j) := by
  rw [keyIn, filter_push _ l j h, hb]
  cases b with
  | true => rw [if_pos rfl, if_pos rfl, List.getLast?_append]; rfl
  | false => rw [if_neg (by simp), if_neg (by simp), List.append_nil]; rfl
theorem rising_one {l : List EntM} (h : Rising l) (st ct : Nat) : (l.filter (isEnt st ct)).getLast? = l.find? (isEnt st ct) := by
  rw [← List.head?_filter]
  have hp : Rising (l.filter (isEnt st ct)) := List.Pairwise.sublist List.filter_sublist h
  have hm : ∀ e ∈ l.filter (isEnt st ct), isEnt st ct e = true := fun e he => (List.mem_filter.1 he).2
  revert hp hm
  cases l.filter (isEnt st ct) with
  | nil => intros; rfl
  | cons a t =>
    cases t with
    | nil => intros; rfl
    | cons b t =>
      intro hp hm
      exfalso
      have h1 := (isEnt_iff _ _ _).1 (hm a List.mem_cons_self); have h2 := (isEnt_iff _ _ _).1 (hm b (List.mem_cons_of_mem _ List.mem_cons_self))
      rw [Rising, List.pairwise_cons] at hp
      have hab := hp.1 b List.mem_cons_self
      rw [before_iff] at hab
      omega
theorem keyIn_find {l : List EntM} (h : Rising l) (st ct : Nat) : keyIn st ct l = ((l.find? (isEnt st ct)).map EntM.key).getD [] := by rw [keyIn, rising_one h]
theorem refOld_any (s : StM) (aa : Option Addr) (nn cc : Nat) (l : LetM) (w : World) (hl : s.kept.length ≤ 255) (hr : Rising s.kept) (hk8 : ∀ e ∈ s.kept, e.key.length = 8) (hv : EntsAt w (.slice aa nn cc) s.kept) :
    Calls Tryz.prog 143 #[.agg #[.int .i64 s.role, .int .i64 s.step, .int .i64 s.sent, .int .i64 s.got, .int .i64 s.prev, .int .i64 s.skip, .int .i64 s.cap, .string (str s.root), .string (str s.out), .string (str s.inn), .int .i64 s.secret, .int .i64 s.peer, .slice aa nn cc], .agg #[.int .i64 l.step, .int .i64 l.count, .int .i64 l.prev, .int .i64 l.pub, .string (str l.head), .string (str l.body)]] w fun e w' => TakeRef (oldR s l) w.heap.size w' e ∧ Below w.heap.size w w' := by
  obtain ⟨i0, hi0, hz0, hz1, hz2⟩ := info_parts Tryz.infoEntry; obtain ⟨xa, ca, hva⟩ := hv.form
  injection hva with x1 x2 x3
  subst x2; clear x1 x3 xa ca; have HKF : Hid (keyIn l.step l.count s.kept = ((s.kept.find? (isEnt l.step l.count)).map EntM.key).getD []) := keyIn_find hr _ _; have HK8 : Hid (∀ e ∈ s.kept, e.key.length = 8) := hk8; clear hr hk8
  go_enter Tryz.func143, Tryz.ntmps143
  go_upto_region 1 with fail
  obtain ⟨wb, ewb, hB, hL, hR, hW, hlt⟩ := alloc3e w (.cells #[.int .i64 s.role, .int .i64 s.step, .int .i64 s.sent, .int .i64 s.got, .int .i64 s.prev, .int .i64 s.skip, .int .i64 s.cap, .string (str s.root), .string (str s.out), .string (str s.inn), .int .i64 s.secret, .int .i64 s.peer, .slice aa s.kept.length cc] 63) (.cells #[.int .i64 l.step, .int .i64 l.count, .int .i64 l.prev, .int .i64 l.pub, .string (str l.head), .string (str l.body)] 145) (.cells #[.int .i64 0, .int .i64 0, .int .i64 0, .int .i64 0, .int .i64 0, .int .i64 0, .int .i64 0, .string ⟨#[]⟩, .string ⟨#[]⟩, .string ⟨#[]⟩, .int .i64 0, .int .i64 0, .slice none 0 0] 63); rw [← ewb]; clear ewb; have HB := hid hB; have HL := hid hL; have HR := hid hR; have HW := hid hW; have HV : Hid (EntsAt wb (.slice aa s.kept.length cc) s.kept) := hv.next hW; clear hB hL hR hW hv; go_wp2
  go_loopg [7, 8, 9] 2000 (fun g k v c wr => ∃ (j : Nat) (xv : Option Addr) (xn xc : Nat), ∃ m : List EntM, k = .string (str (keyIn l.step l.count (s.kept.take j))) ∧ v = .slice xv xn xc ∧ c = .int .i64 j ∧ j ≤ s.kept.length ∧ g + j = 2000 ∧ m = (s.kept.take j).filter (fun e => !isEnt l.step l.count e) ∧ m.length ≤ j ∧ wr.ownsRow wb.heap.size 119 3 v m.length (entsCells m) ∧ Below wb.heap.size wb wr)
  case atStart => exact ⟨0, none, 0, 0, [], rfl, rfl, rfl, by omega, by omega, rfl, by simp, World.ownsRow_nil _ _ _ _, Below.refl _ _⟩
  case round =>
    obtain ⟨j, xv, xn, xc, m, rfl, rfl, rfl, hj, hg, hm, hmj, hown, hb⟩ := hrel; have hsz := hb.size; have HB2 := hid hb
    have HM : Hid (m = (s.kept.take j).filter (fun e => !isEnt l.step l.count e)) := hm
    have hlr := HV.out.next hb
    have hBr := (hb.block w.heap.size (by omega)).trans HB.out
    have hLr := (hb.block (w.heap.size + 1) (by omega)).trans HL.out
    have k12 : wr.cell? ⟨w.heap.size, 12, none⟩ = some (.slice aa s.kept.length cc) := cell_of_row wr _ 12 _ _ _ hBr; have q0 : wr.cell? ⟨w.heap.size + 1, 0, none⟩ = some (.int .i64 l.step) := cell_of_row wr _ 0 _ _ _ hLr; have q1 : wr.cell? ⟨w.heap.size + 1, 1, none⟩ = some (.int .i64 l.count) := cell_of_row wr _ 1 _ _ _ hLr; have HO := hid hown
    obtain ⟨kv, hkv⟩ : ∃ kv, kv = str (keyIn l.step l.count (s.kept.take j)) := ⟨_, rfl⟩
    rw [← hkv]; have HKV : Hid (kv = str (keyIn l.step l.count (s.kept.take j))) := hkv; clear hb hm hBr hLr hown hkv
    by_cases hlt : j < s.kept.length
    · obtain ⟨g, cap', hv', hc, hgs, c0, c1, c2⟩ := hlr.cells hlt
      injection hv' with h1 h2 h3
      subst h1 h3
      have hjl : (j : Int) < (s.kept.length : Int) := by omega
      have hj0 : (0 : Int) ≤ (j : Int) := by omega
      have HT : Hid (∀ b, isEnt l.step l.count (s.kept.getD j default) = b → (s.kept.take (j + 1)).filter (fun e => !isEnt l.step l.count e) = m ++ if b = true then [] else [s.kept.getD j default]) := by
        intro b hb
        rw [take_push s.kept default j hlt, List.filter_append, ← HM.out, List.filter_cons, List.filter_nil, hb]
        cases b <;> rfl
      have HKP : Hid (∀ b, isEnt l.step l.count (s.kept.getD j default) = b → keyIn l.step l.count (s.kept.take (j + 1)) = if b = true then (s.kept.getD j default).key else keyIn l.step l.count (s.kept.take j)) := fun b hb => keyIn_push _ _ _ _ hlt b hb
      by_cases he : (s.kept.getD j default).step = l.step ∧ (s.kept.getD j default).count = l.count
      · have HF : Hid (isEnt l.step l.count (s.kept.getD j default) = true) := (isEnt_iff _ _ _).2 he
        have HT2 : Hid ((s.kept.take (j + 1)).filter (fun e => !isEnt l.step l.count e) = m) := by
          show _ = _
          rw [HT.out _ HF.out, if_pos rfl, List.append_nil]
        have HK2 : Hid (keyIn l.step l.count (s.kept.take (j + 1)) = (s.kept.getD j default).key) := by
          show _ = _
          rw [HKP.out _ HF.out, if_pos rfl]
        obtain ⟨he1, he2⟩ := he
        have e1 : (((s.kept.getD j default).step : Int) == (l.step : Int)) = true := by rw [he1]; simp
        have e2 : (((s.kept.getD j default).count : Int) == (l.count : Int)) = true := by rw [he2]; simp
        have e3 : decide (((s.kept.getD j default).step : Int) = (l.step : Int)) = true := by rw [he1]; simp
        have e4 : decide (((s.kept.getD j default).count : Int) = (l.count : Int)) = true := by rw [he2]; simp
        obtain ⟨en, hen⟩ : ∃ en, en = s.kept.getD j default := ⟨_, rfl⟩
        rw [← hen] at c0 c1 c2 e1 e2 e3 e4 HK2
        clear hen HT HF he1 he2 hlr HKP
        go_upto_region 6 with fail
        go_quiet (fail)
        generalize hwd : World.drewN wr _ = wd
        have d12 : wd.cell? ⟨w.heap.size, 12, none⟩ = some (.slice (some ⟨g, 0, none⟩) s.kept.length cc) := by rw [← hwd]; exact k12
        have d0 : wd.cell? ⟨g, j * 3, none⟩ = some (.int .i64 en.step) := by rw [← hwd]; exact c0
        have d1 : wd.cell? ⟨g, j * 3 + 1, none⟩ = some (.int .i64 en.count) := by rw [← hwd]; exact c1
        have d2 : wd.cell? ⟨g, j * 3 + 2, none⟩ = some (.string (str en.key)) := by rw [← hwd]; exact c2
        have hown : wd.ownsRow wb.heap.size 119 3 (.slice xv xn xc) m.length (entsCells m) := by rw [← hwd]; exact HO.out
        have HBD : Hid (Below wb.heap.size wb wd) := by
          show Below _ _ _
          rw [← hwd]; exact HB2.out.trans (below_dn _ _ _)
        have hsz := HBD.out.size; clear hwd k12 c0 c1 c2 HO HB2; go_wp2
        go_roundg (gk - 1)
        case measure => omega
        case rel => exact ⟨j + 1, xv, xn, xc, m, by rw [HK2.out], rfl, by simp, by omega, by omega, by rw [HT2.out], by omega, hown, HBD.out⟩
      · have HF : Hid (isEnt l.step l.count (s.kept.getD j default) = false) := isEnt_false _ _ _ he
        have HT2 : Hid ((s.kept.take (j + 1)).filter (fun e => !isEnt l.step l.count e) = m ++ [s.kept.getD j default]) := by
          show _ = _
          rw [HT.out _ HF.out, if_neg (by simp)]
        have HK2 : Hid (keyIn l.step l.count (s.kept.take (j + 1)) = keyIn l.step l.count (s.kept.take j)) := by
          show _ = _
          rw [HKP.out _ HF.out, if_neg (by simp)]
        obtain ⟨en, hen⟩ : ∃ en, en = s.kept.getD j default := ⟨_, rfl⟩
        rw [← hen] at c0 c1 c2 he HT2
        clear hen HT HF hlr HKP
        by_cases hs : en.step = l.step
        · have e1 : ((en.step : Int) == (l.step : Int)) = true := by rw [hs]; simp
          have e3 : decide ((en.step : Int) = (l.step : Int)) = true := by rw [hs]; simp
          have hne : ¬ (en.count : Int) = (l.count : Int) := by omega
          have e2 : ((en.count : Int) == (l.count : Int)) = false := by rw [beq_eq_false_iff_ne]; exact hne
          have e4 : decide ((en.count : Int) = (l.count : Int)) = false := decide_eq_false hne; clear hs he
          go_upto_region 6 with fail
          go_quiet (fail)
          generalize hwd : World.drewN wr _ = wd
          have d12 : wd.cell? ⟨w.heap.size, 12, none⟩ = some (.slice (some ⟨g, 0, none⟩) s.kept.length cc) := by rw [← hwd]; exact k12
          have d0 : wd.cell? ⟨g, j * 3, none⟩ = some (.int .i64 en.step) := by rw [← hwd]; exact c0
          have d1 : wd.cell? ⟨g, j * 3 + 1, none⟩ = some (.int .i64 en.count) := by rw [← hwd]; exact c1
          have d2 : wd.cell? ⟨g, j * 3 + 2, none⟩ = some (.string (str en.key)) := by rw [← hwd]; exact c2
          have hown : wd.ownsRow wb.heap.size 119 3 (.slice xv xn xc) m.length (entsCells m) := by rw [← hwd]; exact HO.out
          have HBD : Hid (Below wb.heap.size wb wd) := by
            show Below _ _ _
            rw [← hwd]; exact HB2.out.trans (below_dn _ _ _)
          have hsz := HBD.out.size; clear hwd k12 c0 c1 c2 HO HB2
          go_wp2_with (first | (at_builtin; go_loud (refine wpList_append_lies _ rfl (.tmp 43) (.tmp 49) _ rfl wb.heap.size 119 i0 _ 3 32 Tryz.underlying61 hi0 hz0 hz1 hz2 rfl (by omega) _ m.length (entsCells m) rfl (hown.alloc _) ⟨wd.heap.size, 0, none⟩ 1 1 [.int .i64 en.step, .int .i64 en.count, .string (str en.key)] rfl rfl (World.news_of_block (cs := #[.int .i64 en.step, .int .i64 en.count, .string (str en.key)]) (t := 119) (fr := (0, 0)) (heap_alloc_new _ _)) (by simp [Value.oneCell']) (by omega) (by unfold maxLen; omega) (by omega) (by simp; omega) (wd.heap.size + 1) (by simp) ?_); intro g2 cap2 w2 hown2 hgrow hat hlt2))
          go_roundg (gk - 1)
          case measure => omega
          case rel =>
            refine ⟨j + 1, _, _, _, m ++ [en], by rw [HK2.out, HKV.out], rfl, by simp, by omega, by omega, by rw [HT2.out], by simp; omega, ?_, ?_⟩
            · rw [ents_push, List.length_append]; exact hown2
            · exact grown_below (HBD.out.alloc hsz _) (hown.alloc _) hgrow
        · have hne : ¬ (en.step : Int) = (l.step : Int) := by omega
          have e1 : ((en.step : Int) == (l.step : Int)) = false := by rw [beq_eq_false_iff_ne]; exact hne
          have e3 : decide ((en.step : Int) = (l.step : Int)) = false := decide_eq_false hne; clear hs he
          go_upto_region 6 with fail
          go_quiet (fail)
          generalize hwd : World.drewN wr _ = wd
          have d12 : wd.cell? ⟨w.heap.size, 12, none⟩ = some (.slice (some ⟨g, 0, none⟩) s.kept.length cc) := by rw [← hwd]; exact k12
          have d0 : wd.cell? ⟨g, j * 3, none⟩ = some (.int .i64 en.step) := by rw [← hwd]; exact c0
          have d1 : wd.cell? ⟨g, j * 3 + 1, none⟩ = some (.int .i64 en.count) := by rw [← hwd]; exact c1
          have d2 : wd.cell? ⟨g, j * 3 + 2, none⟩ = some (.string (str en.key)) := by rw [← hwd]; exact c2
          have hown : wd.ownsRow wb.heap.size 119 3 (.slice xv xn xc) m.length (entsCells m) := by rw [← hwd]; exact HO.out
          have HBD : Hid (Below wb.heap.size wb wd) := by
            show Below _ _ _
            rw [← hwd]; exact HB2.out.trans (below_dn _ _ _)
          have hsz := HBD.out.size; clear hwd k12 c0 c1 c2 HO HB2
          go_wp2_with (first | (at_builtin; go_loud (refine wpList_append_lies _ rfl (.tmp 43) (.tmp 49) _ rfl wb.heap.size 119 i0 _ 3 32 Tryz.underlying61 hi0 hz0 hz1 hz2 rfl (by omega) _ m.length (entsCells m) rfl (hown.alloc _) ⟨wd.heap.size, 0, none⟩ 1 1 [.int .i64 en.step, .int .i64 en.count, .string (str en.key)] rfl rfl (World.news_of_block (cs := #[.int .i64 en.step, .int .i64 en.count, .string (str en.key)]) (t := 119) (fr := (0, 0)) (heap_alloc_new _ _)) (by simp [Value.oneCell']) (by omega) (by unfold maxLen; omega) (by omega) (by simp; omega) (wd.heap.size + 1) (by simp) ?_); intro g2 cap2 w2 hown2 hgrow hat hlt2))
          go_roundg (gk - 1)
          case measure => omega
          case rel =>
            refine ⟨j + 1, _, _, _, m ++ [en], by rw [HK2.out, HKV.out], rfl, by simp, by omega, by omega, by rw [HT2.out], by simp; omega, ?_, ?_⟩
            · rw [ents_push, List.length_append]; exact hown2
            · exact grown_below (HBD.out.alloc hsz _) (hown.alloc _) hgrow
    · obtain rfl : j = s.kept.length := by omega
      have hjl : ¬ (s.kept.length : Int) < (s.kept.length : Int) := by omega
      have hk2 : kv = str (((s.kept.find? (isEnt l.step l.count)).map EntM.key).getD []) := by rw [HKV.out, List.take_length, HKF.out]
      have HM2 : Hid (m = s.kept.filter (fun e => !isEnt l.step l.count e)) := by
        show _ = _
        rw [HM.out, List.take_length]
      have hBr := (HB2.out.block w.heap.size (by omega)).trans HB.out
      have hRr := (HB2.out.block (w.heap.size + 1 + 1) (by omega)).trans HR.out
      have HWr : Hid (Below w.heap.size w wr) := below_tr HW.out HB2.out; clear hlr HM HKV
      cases hf : s.kept.find? (isEnt l.step l.count) with
      | none =>
        rw [hf] at hk2
        have hk3 : kv = ⟨#[]⟩ := hk2; subst hk3
        have HO2 : Hid (oldR s l = (16, [], s)) := by
          show _ = _
          rw [oldR, hf]
        obtain ⟨u0, u1, u2, u3, u4, u5, u6, u7, u8, u9, u10, u11, u12⟩ := cells13 hBr; obtain ⟨a0, a1, a2, a3, a4, a5, a6, a7, a8, a9, a10, a11, a12⟩ := cells13 hRr
        have fA : ∀ j, wr.frozen? ⟨w.heap.size + 1 + 1, j, none⟩ = false := fun j => frozen_of_row wr _ j _ _ hRr
        clear hk2 hf hBr hRr k12
        go_upto_region 10 with fail
        go_region
        all_goals go_wp2
        all_goals (try simp only [Exit.inBlock, Exit.then])
        all_goals (refine bodyPost_ret (v := .tuple #[.string ⟨#[]⟩, .agg #[.int .i64 s.role, .int .i64 s.step, .int .i64 s.sent, .int .i64 s.got, .int .i64 s.prev, .int .i64 s.skip, .int .i64 s.cap, .string (str s.root), .string (str s.out), .string (str s.inn), .int .i64 s.secret, .int .i64 s.peer, .slice aa s.kept.length cc], .int .i64 16]) ?_ ?_ ?_)
        all_goals first
          | rfl
          | (rw [results_tct (fn := Tryz.f143) rfl]; simp [go_sem, a0, a1, a2, a3, a4, a5, a6, a7, a8, a9, a10, a11, a12])
          | (refine ⟨⟨⟨#[]⟩, s, aa, s.kept.length, cc, by rw [HO2.out]; rfl, fun q => absurd q (by rw [HO2.out]; simp)⟩, ?_⟩
             repeat (first | (with_reducible refine Below.setCell ?_ (by show w.heap.size ≤ w.heap.size + 1 + 1; omega) _) | (with_reducible refine Below.drew ?_))
             exact HWr.out)
      | some en =>
        rw [hf] at hk2
        have hk3 : kv = str en.key := hk2; subst hk3
        have h8 : en.key.length = 8 := HK8.out en (List.mem_of_find?_eq_some hf)
        have hne : (str en.key).toList.isEmpty = false := by
          rw [Lib.toList_data, str_toList]
          cases hq : en.key with
          | nil => rw [hq] at h8; simp at h8
          | cons x y => rfl
        have HO2 : Hid (oldR s l = (0, en.key, { s with kept := m })) := by
          show _ = _
          rw [oldR, hf, HM2.out]
        have fB : ∀ j, wr.frozen? ⟨w.heap.size, j, none⟩ = false := fun j => frozen_of_row wr _ j _ _ hBr
        have HBr := hid hBr; have HRr := hid hRr; clear hk2 hf hBr hRr HM2
        go_upto_region 12 with fail
        have hX : (wr.setCell ⟨w.heap.size, 12, none⟩ (.slice xv xn xc)).heap[w.heap.size]? = some (.cells #[.int .i64 s.role, .int .i64 s.step, .int .i64 s.sent, .int .i64 s.got, .int .i64 s.prev, .int .i64 s.skip, .int .i64 s.cap, .string (str s.root), .string (str s.out), .string (str s.inn), .int .i64 s.secret, .int .i64 s.peer, .slice xv xn xc] 63) := heap_setCell_same _ _ _ _ _ _ HBr.out
        have hY := (heap_setCell_other wr ⟨w.heap.size, 12, none⟩ (w.heap.size + 1 + 1) (.slice xv xn xc) (by show w.heap.size + 1 + 1 ≠ w.heap.size; omega)).trans HRr.out
        have hO : (wr.setCell ⟨w.heap.size, 12, none⟩ (.slice xv xn xc)).ownsRow wb.heap.size 119 3 (.slice xv xn xc) m.length (entsCells m) := ownsRow_setCell_below HO.out (by show w.heap.size < _; omega) _
        have hZ : Below w.heap.size w (wr.setCell ⟨w.heap.size, 12, none⟩ (.slice xv xn xc)) := HWr.out.setCell (by exact Nat.le_refl _) _
        generalize (wr.setCell ⟨w.heap.size, 12, none⟩ (.slice xv xn xc)) = wz at hX hY hO hZ ⊢
        obtain ⟨u0, u1, u2, u3, u4, u5, u6, u7, u8, u9, u10, u11, u12⟩ := cells13 hX; obtain ⟨a0, a1, a2, a3, a4, a5, a6, a7, a8, a9, a10, a11, a12⟩ := cells13 hY
        have fA : ∀ j, wz.frozen? ⟨w.heap.size + 1 + 1, j, none⟩ = false := fun j => frozen_of_row wz _ j _ _ hY
        have HZ := hid hZ; have HOZ := hid hO; clear hX hY hO hZ HBr HRr HO k12 q0 q1 fB hne
        go_region
        all_goals go_wp2
        all_goals (try simp only [Exit.inBlock, Exit.then])
        all_goals (refine bodyPost_ret (v := .tuple #[.string (str en.key), .agg #[.int .i64 s.role, .int .i64 s.step, .int .i64 s.sent, .int .i64 s.got, .int .i64 s.prev, .int .i64 s.skip, .int .i64 s.cap, .string (str s.root), .string (str s.out), .string (str s.inn), .int .i64 s.secret, .int .i64 s.peer, .slice xv xn xc], .int .i64 0]) ?_ ?_ ?_)
        all_goals first
          | rfl
          | (rw [results_tct (fn := Tryz.f143) rfl]; simp [go_sem, a0, a1, a2, a3, a4, a5, a6, a7, a8, a9, a10, a11, a12])
          | (refine ⟨⟨str en.key, { s with kept := m }, xv, xn, xc, by rw [HO2.out]; rfl, fun _ => ⟨by rw [HO2.out], by rw [HO2.out], ?_⟩⟩, ?_⟩
             · refine ownsRow_base (base := wb.heap.size) ?_ (by omega)
               repeat (first | (with_reducible refine ownsRow_setCell_below ?_ (by show w.heap.size + 1 + 1 < wb.heap.size; omega) _) | (with_reducible refine ownsRow_drew ?_))
               exact HOZ.out
             · repeat (first | (with_reducible refine Below.setCell ?_ (by show w.heap.size ≤ w.heap.size + 1 + 1; omega) _) | (with_reducible refine Below.drew ?_))
               exact HZ.out)
def refDueR (s : StM) (count : Nat) : Int × List UInt8 × StM := if skipBad s count then (17, [], s) else (0, dueKey s count, { dueS s count with kept := greatL (dueS s count).kept s.cap })
def refTurnR (s : StM) (l : LetM) (draw : Nat) : Int × List UInt8 × StM := if 2 ≤ s.step ∧ skipBad s l.prev then (17, [], s) else refDueR (turnS (endS s l.prev) l.step l.pub draw) l.count
def refTakeR (s : StM) (l : LetM) (draw : Nat) : Int × List UInt8 × StM := if l.step = s.step + 1 then refTurnR s l draw else if l.step + 1 = s.step ∧ s.got ≤ l.count then refDueR s l.count else oldR s l
theorem refDue_any (s : StM) (aa : Option Addr) (nn cc : Nat) (l : LetM) (w : World) (hst : l.step + 1 = s.step) (h255 : s.step ≤ 255) (hge : s.got ≤ l.count) (hc : l.count ≤ 254) (hl : s.kept.length ≤ 500) (hin : s.inn.length = 8) (hcap : s.cap ≤ 255) (hv : EntsAt w (.slice aa nn cc) s.kept) :
    Calls Tryz.prog 142 #[.agg #[.int .i64 s.role, .int .i64 s.step, .int .i64 s.sent, .int .i64 s.got, .int .i64 s.prev, .int .i64 s.skip, .int .i64 s.cap, .string (str s.root), .string (str s.out), .string (str s.inn), .int .i64 s.secret, .int .i64 s.peer, .slice aa nn cc], .agg #[.int .i64 l.step, .int .i64 l.count, .int .i64 l.prev, .int .i64 l.pub, .string (str l.head), .string (str l.body)]] w fun e w' => TakeRef (refDueR s l.count) w.heap.size w' e ∧ Below w.heap.size w w' := by
  have hD : s.step - 1 = l.step := by omega
  have hdk : (dueS s l.count).kept = s.kept ++ spanL s.inn l.step s.got (l.count - s.got) := by
    show s.kept ++ spanL s.inn (s.step - 1) s.got (l.count - s.got) = _
    rw [hD]
  have hsk : skipBad s l.count ↔ s.got < l.count ∧ s.skip < ofL (s.kept ++ spanL s.inn l.step s.got (l.count - s.got)) l.step := by
    rw [ofL_append, ofL_span, if_pos rfl]
    unfold skipBad
    rw [hD]
  have hky : dueKey s l.count = keyK (chainK s.inn (l.count - s.got)) := rfl; have hnx : (dueS s l.count).inn = chainK s.inn (l.count - s.got + 1) := rfl
  have cs := fun w => span_any s.inn l.step s.got l.count w hin (by omega) (by omega)
  have hsl := spanL_length s.inn l.step s.got (l.count - s.got)
  have ck := fun w => keyOf_any s.inn ((l.count : Int) - (s.got : Int)) w hin (by omega) (by omega)
  have cch := fun w => chain_any s.inn ((l.count : Int) - (s.got : Int) + 1) w hin (by omega) (by omega)
  rw [show ((l.count : Int) - (s.got : Int)).toNat = l.count - s.got by omega, ← hky] at ck
  rw [show ((l.count : Int) - (s.got : Int) + 1).toNat = l.count - s.got + 1 by omega, ← hnx] at cch
  generalize spanL s.inn l.step s.got (l.count - s.got) = sp at *
  rw [← hsl] at cs
  have cj := fun va w ha hb => joined_any s.kept sp (.slice aa nn cc) va w ha hb (by omega) (by omega)
  have hal : (s.kept ++ sp).length ≤ 1000 := by rw [List.length_append]; omega
  rw [← hdk] at cj hal hsk
  obtain ⟨al, hAl⟩ : ∃ al, al = (dueS s l.count).kept := ⟨_, rfl⟩
  rw [← hAl] at cj hal hsk
  have co := fun v w h => of_any al v l.step w h (by omega)
  have cg := fun v w h => refGreatest_any al v s.cap w h hal (by omega)
  obtain ⟨gl, hGl⟩ : ∃ gl, gl = greatL al s.cap := ⟨_, rfl⟩
  rw [← hGl] at cg
  obtain ⟨ky, hKy⟩ : ∃ ky, ky = str (dueKey s l.count) := ⟨_, rfl⟩
  rw [← hKy] at ck
  obtain ⟨nx, hNx⟩ : ∃ nx, nx = str (dueS s l.count).inn := ⟨_, rfl⟩
  rw [← hNx] at cch
  obtain ⟨dx, hDx⟩ : ∃ dx : StM, dx = { dueS s l.count with kept := gl } := ⟨_, rfl⟩
  have HDX : Hid (∀ v, stCells dx v = #[.int .i64 s.role, .int .i64 s.step, .int .i64 s.sent, .int .i64 ((l.count : Int) + 1), .int .i64 s.prev, .int .i64 s.skip, .int .i64 s.cap, .string (str s.root), .string (str s.out), .string nx, .int .i64 s.secret, .int .i64 s.peer, v]) := fun v => by
    rw [hDx, stCells, hNx]
    show _ = _
    simp only [dueS, Int.natCast_add]
    rfl
  have HDK : Hid (dx.kept = gl) := by
    show _ = _
    rw [hDx]
  have HKY : Hid (ky = str (dueKey s l.count)) := hKy
  have HQ0 : Hid (¬ skipBad s l.count → refDueR s l.count = (0, dueKey s l.count, dx)) := fun hb => by
    rw [refDueR, if_neg hb, hDx, hGl, hAl]
  have HQ1 : Hid (skipBad s l.count → refDueR s l.count = (17, [], s)) := fun hb => by
    rw [refDueR, if_pos hb]
  have HSK : Hid (skipBad s l.count ↔ s.got < l.count ∧ s.skip < ofL al l.step) := hsk; have HST : Hid (l.step + 1 = s.step) := hst
  generalize ofL al l.step = N at *
  clear hdk hky hnx hAl hGl hKy hNx hDx hsk hst hD hsl hin
  go_enter Tryz.func142, Tryz.ntmps142
  go_upto_region 1 with fail
  obtain ⟨wb, ewb, hB, hL, hR, hW, hlt⟩ := alloc3e w (.cells #[.int .i64 s.role, .int .i64 s.step, .int .i64 s.sent, .int .i64 s.got, .int .i64 s.prev, .int .i64 s.skip, .int .i64 s.cap, .string (str s.root), .string (str s.out), .string (str s.inn), .int .i64 s.secret, .int .i64 s.peer, .slice aa nn cc] 63) (.cells #[.int .i64 l.step, .int .i64 l.count, .int .i64 l.prev, .int .i64 l.pub, .string (str l.head), .string (str l.body)] 145) (.cells #[.int .i64 0, .int .i64 0, .int .i64 0, .int .i64 0, .int .i64 0, .int .i64 0, .int .i64 0, .string ⟨#[]⟩, .string ⟨#[]⟩, .string ⟨#[]⟩, .int .i64 0, .int .i64 0, .slice none 0 0] 63); rw [← ewb]; clear ewb; have HB := hid hB; have HL := hid hL; have HR := hid hR; have HW := hid hW; have HV : Hid (EntsAt wb (.slice aa nn cc) s.kept) := hv.next hW; have k3 : wb.cell? ⟨w.heap.size, 3, none⟩ = some (.int .i64 s.got) := cell_of_row wb _ 3 _ _ _ hB; have k9 : wb.cell? ⟨w.heap.size, 9, none⟩ = some (.string (str s.inn)) := cell_of_row wb _ 9 _ _ _ hB; have k12 : wb.cell? ⟨w.heap.size, 12, none⟩ = some (.slice aa nn cc) := cell_of_row wb _ 12 _ _ _ hB; have kq0 : wb.cell? ⟨w.heap.size + 1, 0, none⟩ = some (.int .i64 l.step) := cell_of_row wb _ 0 _ _ _ hL; have kq1 : wb.cell? ⟨w.heap.size + 1, 1, none⟩ = some (.int .i64 l.count) := cell_of_row wb _ 1 _ _ _ hL; clear hB hL hR hW hv
  go_cut [7] (fun x wx => ∃ (a2 : Option Addr) (n2 c2 : Nat), x = .slice a2 n2 c2 ∧ wx.ownsRow wb.heap.size 119 3 (.slice a2 n2 c2) al.length (entsCells al) ∧ Below wb.heap.size wb wx)
  case first =>
    go_region_held3 (fun w' => w'.cell? ⟨w.heap.size, 12, none⟩ = some (.slice aa nn cc) ∧ w'.cell? ⟨w.heap.size, 9, none⟩ = some (.string (str s.inn)) ∧ w'.cell? ⟨w.heap.size, 3, none⟩ = some (.int .i64 s.got) ∧ w'.cell? ⟨w.heap.size + 1, 0, none⟩ = some (.int .i64 l.step) ∧ w'.cell? ⟨w.heap.size + 1, 1, none⟩ = some (.int .i64 l.count)) (first | (simp [k12, k9, k3, kq0, kq1]; done) | (simp [g12, g9, g3, gq0, gq1]; done) | (simp [y12, y9, y3, yq0, yq1]; done)) (first | (go_at_call 157; go_must (with_reducible refine (cs _).mono ?_); rintro e w1 ⟨⟨v1, rfl, hown1⟩, hb1⟩; obtain ⟨a1, n1, c1, hv1⟩ := ownsK_form hown1; subst hv1; have hb1' : Below wb.heap.size wb w1 := ⟨hb1.os, hb1.tape, hb1.output, hb1.size, hb1.block⟩; have hB9 := (hb1'.block w.heap.size (by omega)).trans HB.out; have hL9 := (hb1'.block (w.heap.size + 1) (by omega)).trans HL.out; have g3 : w1.cell? ⟨w.heap.size, 3, none⟩ = some (.int .i64 s.got) := cell_of_row w1 _ 3 _ _ _ hB9; have g9 : w1.cell? ⟨w.heap.size, 9, none⟩ = some (.string (str s.inn)) := cell_of_row w1 _ 9 _ _ _ hB9; have g12 : w1.cell? ⟨w.heap.size, 12, none⟩ = some (.slice aa nn cc) := cell_of_row w1 _ 12 _ _ _ hB9; have gq0 : w1.cell? ⟨w.heap.size + 1, 0, none⟩ = some (.int .i64 l.step) := cell_of_row w1 _ 0 _ _ _ hL9; have gq1 : w1.cell? ⟨w.heap.size + 1, 1, none⟩ = some (.int .i64 l.count) := cell_of_row w1 _ 1 _ _ _ hL9; clear hB9 hL9) | (go_at_call 158; go_must (with_reducible refine (cj _ _ (HV.out.next hb1') (EntsAt.of_own hown1)).mono ?_); rintro e w2 ⟨⟨v2, rfl, hown2⟩, hb2⟩; obtain ⟨a2, n2, c2, hv2⟩ := ownsK_form hown2; subst hv2; have hb2' : Below wb.heap.size wb w2 := below_tr hb1' ⟨hb2.os, hb2.tape, hb2.output, hb2.size, hb2.block⟩; have hB9 := (hb2'.block w.heap.size (by omega)).trans HB.out; have hL9 := (hb2'.block (w.heap.size + 1) (by omega)).trans HL.out; have y3 : w2.cell? ⟨w.heap.size, 3, none⟩ = some (.int .i64 s.got) := cell_of_row w2 _ 3 _ _ _ hB9; have y9 : w2.cell? ⟨w.heap.size, 9, none⟩ = some (.string (str s.inn)) := cell_of_row w2 _ 9 _ _ _ hB9; have y12 : w2.cell? ⟨w.heap.size, 12, none⟩ = some (.slice aa nn cc) := cell_of_row w2 _ 12 _ _ _ hB9; have yq0 : w2.cell? ⟨w.heap.size + 1, 0, none⟩ = some (.int .i64 l.step) := cell_of_row w2 _ 0 _ _ _ hL9; have yq1 : w2.cell? ⟨w.heap.size + 1, 1, none⟩ = some (.int .i64 l.count) := cell_of_row w2 _ 1 _ _ _ hL9; clear hB9 hL9))
    all_goals (go_wp2_with fail)
    all_goals go_meet
    all_goals exact ⟨_, _, _, rfl, ownsRow_base hown2 hb1'.size, hb2'⟩
  case rest =>
    obtain ⟨a2, n2, c2, rfl, hownc, hbc⟩ := hcut; have hszc := hbc.size
    have hBc := (hbc.block w.heap.size (by omega)).trans HB.out
    have hLc := (hbc.block (w.heap.size + 1) (by omega)).trans HL.out
    have hRc := (hbc.block (w.heap.size + 1 + 1) (by omega)).trans HR.out
    have HWc : Hid (Below w.heap.size w wc) := below_tr HW.out hbc; have HOc := hid hownc; have HEc : Hid (EntsAt wc (.slice a2 n2 c2) al) := EntsAt.of_own hownc; have HBc := hid hBc; have HLc := hid hLc; have HRc := hid hRc; have z9 : wc.cell? ⟨w.heap.size, 9, none⟩ = some (.string (str s.inn)) := cell_of_row wc _ 9 _ _ _ hBc; have z3 : wc.cell? ⟨w.heap.size, 3, none⟩ = some (.int .i64 s.got) := cell_of_row wc _ 3 _ _ _ hBc; have z5 : wc.cell? ⟨w.heap.size, 5, none⟩ = some (.int .i64 s.skip) := cell_of_row wc _ 5 _ _ _ hBc; have p0 : wc.cell? ⟨w.heap.size + 1, 0, none⟩ = some (.int .i64 l.step) := cell_of_row wc _ 0 _ _ _ hLc; have p1 : wc.cell? ⟨w.heap.size + 1, 1, none⟩ = some (.int .i64 l.count) := cell_of_row wc _ 1 _ _ _ hLc; clear hbc hownc k12 k9 k3 kq0 kq1 HB HL HR HW HV cs cj
    by_cases hbad : skipBad s l.count
    · have hb2 := HSK.out.1 hbad
      have i1 : (s.skip : Int) < (N : Int) := by omega
      have i2 : (s.got : Int) < (l.count : Int) := by omega
      have HQ : Hid (refDueR s l.count = (17, [], s)) := HQ1.out hbad; clear hb2 hbad
      go_upto_region 4 with (first | (go_at_call 159; go_must (with_reducible refine (co _ _ HEc.out).mono ?_); rintro e w' ⟨rfl, hw⟩; rw [hw]; clear hw w'))
      clear z9 z3 z5 p0 p1; obtain ⟨u0, u1, u2, u3, u4, u5, u6, u7, u8, u9, u10, u11, u12⟩ := cells13 hBc; obtain ⟨a0, a1, a2, a3, a4, a5, a6, a7, a8, a9, a10, a11, a12⟩ := cells13 hRc
      have fA : ∀ j, wc.frozen? ⟨w.heap.size + 1 + 1, j, none⟩ = false := fun j => frozen_of_row wc _ j _ _ hRc
      have HZ : Hid (Below w.heap.size w wc) := HWc.out; clear hBc hLc hRc
      go_region
      all_goals go_wp2
      all_goals (try simp only [Exit.inBlock, Exit.then])
      all_goals (refine bodyPost_ret (v := .tuple #[.string ⟨#[]⟩, .agg #[.int .i64 s.role, .int .i64 s.step, .int .i64 s.sent, .int .i64 s.got, .int .i64 s.prev, .int .i64 s.skip, .int .i64 s.cap, .string (str s.root), .string (str s.out), .string (str s.inn), .int .i64 s.secret, .int .i64 s.peer, .slice aa nn cc], .int .i64 17]) ?_ ?_ ?_)
      all_goals first
        | rfl
        | (rw [results_tct (fn := Tryz.f142) rfl]; simp [go_sem, a0, a1, a2, a3, a4, a5, a6, a7, a8, a9, a10, a11, a12])
        | (refine ⟨⟨⟨#[]⟩, s, aa, nn, cc, by rw [HQ.out]; rfl, fun q => absurd q (by rw [HQ.out]; simp)⟩, ?_⟩
           · repeat (first | (with_reducible refine Below.setCell ?_ (by show w.heap.size ≤ w.heap.size + 1 + 1; omega) _) | (with_reducible refine Below.drew ?_))
             exact HZ.out)
    · have HQ : Hid (refDueR s l.count = (0, dueKey s l.count, dx)) := HQ0.out hbad; clear hBc hLc hRc
      by_cases h1 : s.skip < N
      · have i1 : (s.skip : Int) < (N : Int) := by omega
        have i2 : ¬ (s.got : Int) < (l.count : Int) := fun q => hbad (HSK.out.2 ⟨by omega, h1⟩)
        clear h1 hbad
        go_upto_region 6 with (first | (go_at_call 159; go_must (with_reducible refine (co _ _ HEc.out).mono ?_); rintro e w' ⟨rfl, hw⟩; rw [hw]; clear hw w') | (go_at_call 109; (with_reducible refine (ck _).mono ?_); rintro e w3 ⟨rfl, hb3⟩))
        have hsz3 := hb3.size
        have hB3 := (hb3.block w.heap.size (by omega)).trans HBc.out
        have hL3 := (hb3.block (w.heap.size + 1) (by omega)).trans HLc.out
        have hR3 := (hb3.block (w.heap.size + 1 + 1) (by omega)).trans HRc.out
        have HO3 : Hid (w3.ownsRow wb.heap.size 119 3 (.slice a2 n2 c2) al.length (entsCells al)) := ownsRow_below HOc.out hb3; have HW3 : Hid (Below w.heap.size w w3) := below_tr HWc.out hb3; have HB3 := hid hB3; have HL3 := hid hL3; have HR3 := hid hR3; have k9 : w3.cell? ⟨w.heap.size, 9, none⟩ = some (.string (str s.inn)) := cell_of_row w3 _ 9 _ _ _ hB3; have k3 : w3.cell? ⟨w.heap.size, 3, none⟩ = some (.int .i64 s.got) := cell_of_row w3 _ 3 _ _ _ hB3; have q1 : w3.cell? ⟨w.heap.size + 1, 1, none⟩ = some (.int .i64 l.count) := cell_of_row w3 _ 1 _ _ _ hL3; clear hB3 hL3 hR3 hb3 z9 z3 z5 p0 p1 HBc HLc HRc HOc HWc HEc co ck
        go_upto_region 7 with (first | (go_at_call 110; (with_reducible refine (cch _).mono ?_); rintro e w4 ⟨rfl, hb4⟩; have hsz4 := hb4.size; have hB4 := (hb4.block w.heap.size (by omega)).trans HB3.out; have y9 : w4.cell? ⟨w.heap.size, 9, none⟩ = some (.string (str s.inn)) := cell_of_row w4 _ 9 _ _ _ hB4; have fB : ∀ j, w4.frozen? ⟨w.heap.size, j, none⟩ = false := fun j => frozen_of_row w4 _ j _ _ hB4; have HB4 := hid hB4; clear hB4))
        have HL4 := hid ((hb4.block (w.heap.size + 1) (by omega)).trans HL3.out)
        have HR4 := hid ((hb4.block (w.heap.size + 1 + 1) (by omega)).trans HR3.out)
        have HO4 : Hid (w4.ownsRow wb.heap.size 119 3 (.slice a2 n2 c2) al.length (entsCells al)) := ownsRow_below HO3.out hb4; have HW4 : Hid (Below w.heap.size w w4) := below_tr HW3.out hb4; clear hb4 HB3 HL3 HR3 HO3 HW3 k9 k3 q1 y9 fB cch; have hBn : (w4.setCell ⟨w.heap.size, 9, none⟩ (.string nx)).heap[w.heap.size]? = some (.cells #[.int .i64 s.role, .int .i64 s.step, .int .i64 s.sent, .int .i64 s.got, .int .i64 s.prev, .int .i64 s.skip, .int .i64 s.cap, .string (str s.root), .string (str s.out), .string nx, .int .i64 s.secret, .int .i64 s.peer, .slice aa nn cc] 63) := heap_setCell_same _ _ _ _ _ _ HB4.out
        have hLn := (heap_setCell_other w4 ⟨w.heap.size, 9, none⟩ (w.heap.size + 1) (.string nx) (by show w.heap.size + 1 ≠ w.heap.size; omega)).trans HL4.out
        have hRn := (heap_setCell_other w4 ⟨w.heap.size, 9, none⟩ (w.heap.size + 1 + 1) (.string nx) (by show w.heap.size + 1 + 1 ≠ w.heap.size; omega)).trans HR4.out
        have hOn : (w4.setCell ⟨w.heap.size, 9, none⟩ (.string nx)).ownsRow wb.heap.size 119 3 (.slice a2 n2 c2) al.length (entsCells al) := ownsRow_setCell_below HO4.out (by show w.heap.size < _; omega) _
        have hWn : Below w.heap.size w (w4.setCell ⟨w.heap.size, 9, none⟩ (.string nx)) := HW4.out.setCell (by exact Nat.le_refl _) _
        have hSn : (w4.setCell ⟨w.heap.size, 9, none⟩ (.string nx)).heap.size = w4.heap.size := World.size_setCell _ _ _
        generalize (w4.setCell ⟨w.heap.size, 9, none⟩ (.string nx)) = w5 at hBn hLn hRn hOn hWn hSn ⊢
        have k3 : w5.cell? ⟨w.heap.size, 3, none⟩ = some (.int .i64 s.got) := cell_of_row w5 _ 3 _ _ _ hBn; have q1 : w5.cell? ⟨w.heap.size + 1, 1, none⟩ = some (.int .i64 l.count) := cell_of_row w5 _ 1 _ _ _ hLn
        have fB : ∀ j, w5.frozen? ⟨w.heap.size, j, none⟩ = false := fun j => frozen_of_row w5 _ j _ _ hBn
        have hsz5 : wb.heap.size ≤ w5.heap.size := by omega
        have HB5 := hid hBn; have HL5 := hid hLn; have HR5 := hid hRn; have HO5 := hid hOn; have HW5 := hid hWn; clear hBn hLn hRn hOn hWn hSn HB4 HL4 HR4 HO4 HW4 hsz4 hsz3
        go_upto_region 8 with fail
        clear k3 q1 fB; have hBn : (w5.setCell ⟨w.heap.size, 3, none⟩ (.int .i64 ((l.count : Int) + 1))).heap[w.heap.size]? = some (.cells #[.int .i64 s.role, .int .i64 s.step, .int .i64 s.sent, .int .i64 ((l.count : Int) + 1), .int .i64 s.prev, .int .i64 s.skip, .int .i64 s.cap, .string (str s.root), .string (str s.out), .string nx, .int .i64 s.secret, .int .i64 s.peer, .slice aa nn cc] 63) := heap_setCell_same _ _ _ _ _ _ HB5.out
        have hLn : (w5.setCell ⟨w.heap.size, 3, none⟩ (.int .i64 ((l.count : Int) + 1))).heap[w.heap.size + 1]? = some (.cells #[.int .i64 l.step, .int .i64 l.count, .int .i64 l.prev, .int .i64 l.pub, .string (str l.head), .string (str l.body)] 145) := (heap_setCell_other _ _ _ _ (by show w.heap.size + 1 ≠ w.heap.size; omega)).trans HL5.out
        have hRn : (w5.setCell ⟨w.heap.size, 3, none⟩ (.int .i64 ((l.count : Int) + 1))).heap[w.heap.size + 1 + 1]? = some (.cells #[.int .i64 0, .int .i64 0, .int .i64 0, .int .i64 0, .int .i64 0, .int .i64 0, .int .i64 0, .string ⟨#[]⟩, .string ⟨#[]⟩, .string ⟨#[]⟩, .int .i64 0, .int .i64 0, .slice none 0 0] 63) := (heap_setCell_other _ _ _ _ (by show w.heap.size + 1 + 1 ≠ w.heap.size; omega)).trans HR5.out
        have hOn : (w5.setCell ⟨w.heap.size, 3, none⟩ (.int .i64 ((l.count : Int) + 1))).ownsRow wb.heap.size 119 3 (.slice a2 n2 c2) al.length (entsCells al) := ownsRow_setCell_below HO5.out (by show w.heap.size < _; omega) _
        have hWn : Below w.heap.size w (w5.setCell ⟨w.heap.size, 3, none⟩ (.int .i64 ((l.count : Int) + 1))) := HW5.out.setCell (by exact Nat.le_refl _) _
        have hSn : (w5.setCell ⟨w.heap.size, 3, none⟩ (.int .i64 ((l.count : Int) + 1))).heap.size = w5.heap.size := World.size_setCell _ _ _
        generalize (w5.setCell ⟨w.heap.size, 3, none⟩ (.int .i64 ((l.count : Int) + 1))) = w6 at hBn hLn hRn hOn hWn hSn ⊢
        have k6 : w6.cell? ⟨w.heap.size, 6, none⟩ = some (.int .i64 s.cap) := cell_of_row w6 _ 6 _ _ _ hBn
        have hsz6 : wb.heap.size ≤ w6.heap.size := by omega
        have HB6 := hid hBn; have HL6 := hid hLn; have HR6 := hid hRn; have HE6 : Hid (EntsAt w6 (.slice a2 n2 c2) al) := EntsAt.of_own hOn; have HW6 := hid hWn; clear hBn hLn hRn hOn hWn hSn HB5 HL5 HR5 HO5 HW5
        go_upto_region 9 with (first | (go_at_call 160; (with_reducible refine (cg _ _ HE6.out).mono ?_); rintro e w7 ⟨⟨v7, rfl, hown7⟩, hb7⟩; obtain ⟨aL, nL, cL, hv7⟩ := ownsK_form hown7; subst hv7; have hsz7 := hb7.size; have hB7 := (hb7.block w.heap.size (by omega)).trans HB6.out; have y12 : w7.cell? ⟨w.heap.size, 12, none⟩ = some (.slice aa nn cc) := cell_of_row w7 _ 12 _ _ _ hB7; have fB : ∀ j, w7.frozen? ⟨w.heap.size, j, none⟩ = false := fun j => frozen_of_row w7 _ j _ _ hB7; have HB7 := hid hB7; have HO7 : Hid (w7.ownsRow wb.heap.size 119 3 (.slice aL nL cL) gl.length (entsCells gl)) := ownsRow_base hown7 hsz6; clear hB7 hown7))
        have HL7 := hid ((hb7.block (w.heap.size + 1) (by omega)).trans HL6.out)
        have HR7 := hid ((hb7.block (w.heap.size + 1 + 1) (by omega)).trans HR6.out)
        have HW7 : Hid (Below w.heap.size w w7) := below_tr HW6.out hb7; clear hb7 HB6 HL6 HR6 HE6 HW6 k6 y12 fB cg; have hBn : (w7.setCell ⟨w.heap.size, 12, none⟩ (.slice aL nL cL)).heap[w.heap.size]? = some (.cells #[.int .i64 s.role, .int .i64 s.step, .int .i64 s.sent, .int .i64 ((l.count : Int) + 1), .int .i64 s.prev, .int .i64 s.skip, .int .i64 s.cap, .string (str s.root), .string (str s.out), .string nx, .int .i64 s.secret, .int .i64 s.peer, .slice aL nL cL] 63) := heap_setCell_same _ _ _ _ _ _ HB7.out
        have hLn := (heap_setCell_other w7 ⟨w.heap.size, 12, none⟩ (w.heap.size + 1) (.slice aL nL cL) (by show w.heap.size + 1 ≠ w.heap.size; omega)).trans HL7.out
        have hRn := (heap_setCell_other w7 ⟨w.heap.size, 12, none⟩ (w.heap.size + 1 + 1) (.slice aL nL cL) (by show w.heap.size + 1 + 1 ≠ w.heap.size; omega)).trans HR7.out
        have hOn : (w7.setCell ⟨w.heap.size, 12, none⟩ (.slice aL nL cL)).ownsRow wb.heap.size 119 3 (.slice aL nL cL) gl.length (entsCells gl) := ownsRow_setCell_below HO7.out (by show w.heap.size < _; omega) _
        have hWn : Below w.heap.size w (w7.setCell ⟨w.heap.size, 12, none⟩ (.slice aL nL cL)) := HW7.out.setCell (by exact Nat.le_refl _) _
        have hSn : (w7.setCell ⟨w.heap.size, 12, none⟩ (.slice aL nL cL)).heap.size = w7.heap.size := World.size_setCell _ _ _
        generalize (w7.setCell ⟨w.heap.size, 12, none⟩ (.slice aL nL cL)) = wz at hBn hLn hRn hOn hWn hSn ⊢
        obtain ⟨u0, u1, u2, u3, u4, u5, u6, u7, u8, u9, u10, u11, u12⟩ := cells13 hBn; obtain ⟨a0, a1, a2, a3, a4, a5, a6, a7, a8, a9, a10, a11, a12⟩ := cells13 hRn
        have fA : ∀ j, wz.frozen? ⟨w.heap.size + 1 + 1, j, none⟩ = false := fun j => frozen_of_row wz _ j _ _ hRn
        have HZ := hid hWn; have HOZ := hid hOn; clear hBn hLn hRn hOn hWn hSn HB7 HL7 HR7 HO7 HW7
        go_region
        all_goals go_wp2
        all_goals (try simp only [Exit.inBlock, Exit.then])
        all_goals (refine bodyPost_ret (v := .tuple #[.string ky, .agg #[.int .i64 s.role, .int .i64 s.step, .int .i64 s.sent, .int .i64 ((l.count : Int) + 1), .int .i64 s.prev, .int .i64 s.skip, .int .i64 s.cap, .string (str s.root), .string (str s.out), .string nx, .int .i64 s.secret, .int .i64 s.peer, .slice aL nL cL], .int .i64 0]) ?_ ?_ ?_)
        all_goals first
          | rfl
          | (rw [results_tct (fn := Tryz.f142) rfl]; simp [go_sem, a0, a1, a2, a3, a4, a5, a6, a7, a8, a9, a10, a11, a12])
          | (refine ⟨⟨ky, dx, aL, nL, cL, by rw [HQ.out, HDX.out], fun _ => ⟨by rw [HQ.out, HKY.out], by rw [HQ.out], ?_⟩⟩, ?_⟩
             · rw [HDK.out]
               refine ownsRow_base (base := wb.heap.size) ?_ (by omega)
               repeat (first | (with_reducible refine ownsRow_setCell_below ?_ (by show w.heap.size + 1 + 1 < wb.heap.size; omega) _) | (with_reducible refine ownsRow_drew ?_))
               exact HOZ.out
             · repeat (first | (with_reducible refine Below.setCell ?_ (by show w.heap.size ≤ w.heap.size + 1 + 1; omega) _) | (with_reducible refine Below.drew ?_))
               exact HZ.out)
      · have i1 : ¬ (s.skip : Int) < (N : Int) := by omega
        clear h1 hbad
        go_upto_region 6 with (first | (go_at_call 159; go_must (with_reducible refine (co _ _ HEc.out).mono ?_); rintro e w' ⟨rfl, hw⟩; rw [hw]; clear hw w') | (go_at_call 109; (with_reducible refine (ck _).mono ?_); rintro e w3 ⟨rfl, hb3⟩))
        have hsz3 := hb3.size
        have hB3 := (hb3.block w.heap.size (by omega)).trans HBc.out
        have hL3 := (hb3.block (w.heap.size + 1) (by omega)).trans HLc.out
        have hR3 := (hb3.block (w.heap.size + 1 + 1) (by omega)).trans HRc.out
        have HO3 : Hid (w3.ownsRow wb.heap.size 119 3 (.slice a2 n2 c2) al.length (entsCells al)) := ownsRow_below HOc.out hb3; have HW3 : Hid (Below w.heap.size w w3) := below_tr HWc.out hb3; have HB3 := hid hB3; have HL3 := hid hL3; have HR3 := hid hR3; have k9 : w3.cell? ⟨w.heap.size, 9, none⟩ = some (.string (str s.inn)) := cell_of_row w3 _ 9 _ _ _ hB3; have k3 : w3.cell? ⟨w.heap.size, 3, none⟩ = some (.int .i64 s.got) := cell_of_row w3 _ 3 _ _ _ hB3; have q1 : w3.cell? ⟨w.heap.size + 1, 1, none⟩ = some (.int .i64 l.count) := cell_of_row w3 _ 1 _ _ _ hL3; clear hB3 hL3 hR3 hb3 z9 z3 z5 p0 p1 HBc HLc HRc HOc HWc HEc co ck
        go_upto_region 7 with (first | (go_at_call 110; (with_reducible refine (cch _).mono ?_); rintro e w4 ⟨rfl, hb4⟩; have hsz4 := hb4.size; have hB4 := (hb4.block w.heap.size (by omega)).trans HB3.out; have y9 : w4.cell? ⟨w.heap.size, 9, none⟩ = some (.string (str s.inn)) := cell_of_row w4 _ 9 _ _ _ hB4; have fB : ∀ j, w4.frozen? ⟨w.heap.size, j, none⟩ = false := fun j => frozen_of_row w4 _ j _ _ hB4; have HB4 := hid hB4; clear hB4))
        have HL4 := hid ((hb4.block (w.heap.size + 1) (by omega)).trans HL3.out)
        have HR4 := hid ((hb4.block (w.heap.size + 1 + 1) (by omega)).trans HR3.out)
        have HO4 : Hid (w4.ownsRow wb.heap.size 119 3 (.slice a2 n2 c2) al.length (entsCells al)) := ownsRow_below HO3.out hb4; have HW4 : Hid (Below w.heap.size w w4) := below_tr HW3.out hb4; clear hb4 HB3 HL3 HR3 HO3 HW3 k9 k3 q1 y9 fB cch; have hBn : (w4.setCell ⟨w.heap.size, 9, none⟩ (.string nx)).heap[w.heap.size]? = some (.cells #[.int .i64 s.role, .int .i64 s.step, .int .i64 s.sent, .int .i64 s.got, .int .i64 s.prev, .int .i64 s.skip, .int .i64 s.cap, .string (str s.root), .string (str s.out), .string nx, .int .i64 s.secret, .int .i64 s.peer, .slice aa nn cc] 63) := heap_setCell_same _ _ _ _ _ _ HB4.out
        have hLn := (heap_setCell_other w4 ⟨w.heap.size, 9, none⟩ (w.heap.size + 1) (.string nx) (by show w.heap.size + 1 ≠ w.heap.size; omega)).trans HL4.out
        have hRn := (heap_setCell_other w4 ⟨w.heap.size, 9, none⟩ (w.heap.size + 1 + 1) (.string nx) (by show w.heap.size + 1 + 1 ≠ w.heap.size; omega)).trans HR4.out
        have hOn : (w4.setCell ⟨w.heap.size, 9, none⟩ (.string nx)).ownsRow wb.heap.size 119 3 (.slice a2 n2 c2) al.length (entsCells al) := ownsRow_setCell_below HO4.out (by show w.heap.size < _; omega) _
        have hWn : Below w.heap.size w (w4.setCell ⟨w.heap.size, 9, none⟩ (.string nx)) := HW4.out.setCell (by exact Nat.le_refl _) _
        have hSn : (w4.setCell ⟨w.heap.size, 9, none⟩ (.string nx)).heap.size = w4.heap.size := World.size_setCell _ _ _
        generalize (w4.setCell ⟨w.heap.size, 9, none⟩ (.string nx)) = w5 at hBn hLn hRn hOn hWn hSn ⊢
        have k3 : w5.cell? ⟨w.heap.size, 3, none⟩ = some (.int .i64 s.got) := cell_of_row w5 _ 3 _ _ _ hBn; have q1 : w5.cell? ⟨w.heap.size + 1, 1, none⟩ = some (.int .i64 l.count) := cell_of_row w5 _ 1 _ _ _ hLn
        have fB : ∀ j, w5.frozen? ⟨w.heap.size, j, none⟩ = false := fun j => frozen_of_row w5 _ j _ _ hBn
        have hsz5 : wb.heap.size ≤ w5.heap.size := by omega
        have HB5 := hid hBn; have HL5 := hid hLn; have HR5 := hid hRn; have HO5 := hid hOn; have HW5 := hid hWn; clear hBn hLn hRn hOn hWn hSn HB4 HL4 HR4 HO4 HW4 hsz4 hsz3
        go_upto_region 8 with fail
        clear k3 q1 fB; have hBn : (w5.setCell ⟨w.heap.size, 3, none⟩ (.int .i64 ((l.count : Int) + 1))).heap[w.heap.size]? = some (.cells #[.int .i64 s.role, .int .i64 s.step, .int .i64 s.sent, .int .i64 ((l.count : Int) + 1), .int .i64 s.prev, .int .i64 s.skip, .int .i64 s.cap, .string (str s.root), .string (str s.out), .string nx, .int .i64 s.secret, .int .i64 s.peer, .slice aa nn cc] 63) := heap_setCell_same _ _ _ _ _ _ HB5.out
        have hLn : (w5.setCell ⟨w.heap.size, 3, none⟩ (.int .i64 ((l.count : Int) + 1))).heap[w.heap.size + 1]? = some (.cells #[.int .i64 l.step, .int .i64 l.count, .int .i64 l.prev, .int .i64 l.pub, .string (str l.head), .string (str l.body)] 145) := (heap_setCell_other _ _ _ _ (by show w.heap.size + 1 ≠ w.heap.size; omega)).trans HL5.out
        have hRn : (w5.setCell ⟨w.heap.size, 3, none⟩ (.int .i64 ((l.count : Int) + 1))).heap[w.heap.size + 1 + 1]? = some (.cells #[.int .i64 0, .int .i64 0, .int .i64 0, .int .i64 0, .int .i64 0, .int .i64 0, .int .i64 0, .string ⟨#[]⟩, .string ⟨#[]⟩, .string ⟨#[]⟩, .int .i64 0, .int .i64 0, .slice none 0 0] 63) := (heap_setCell_other _ _ _ _ (by show w.heap.size + 1 + 1 ≠ w.heap.size; omega)).trans HR5.out
        have hOn : (w5.setCell ⟨w.heap.size, 3, none⟩ (.int .i64 ((l.count : Int) + 1))).ownsRow wb.heap.size 119 3 (.slice a2 n2 c2) al.length (entsCells al) := ownsRow_setCell_below HO5.out (by show w.heap.size < _; omega) _
        have hWn : Below w.heap.size w (w5.setCell ⟨w.heap.size, 3, none⟩ (.int .i64 ((l.count : Int) + 1))) := HW5.out.setCell (by exact Nat.le_refl _) _
        have hSn : (w5.setCell ⟨w.heap.size, 3, none⟩ (.int .i64 ((l.count : Int) + 1))).heap.size = w5.heap.size := World.size_setCell _ _ _
        generalize (w5.setCell ⟨w.heap.size, 3, none⟩ (.int .i64 ((l.count : Int) + 1))) = w6 at hBn hLn hRn hOn hWn hSn ⊢
        have k6 : w6.cell? ⟨w.heap.size, 6, none⟩ = some (.int .i64 s.cap) := cell_of_row w6 _ 6 _ _ _ hBn
        have hsz6 : wb.heap.size ≤ w6.heap.size := by omega
        have HB6 := hid hBn; have HL6 := hid hLn; have HR6 := hid hRn; have HE6 : Hid (EntsAt w6 (.slice a2 n2 c2) al) := EntsAt.of_own hOn; have HW6 := hid hWn; clear hBn hLn hRn hOn hWn hSn HB5 HL5 HR5 HO5 HW5
        go_upto_region 9 with (first | (go_at_call 160; (with_reducible refine (cg _ _ HE6.out).mono ?_); rintro e w7 ⟨⟨v7, rfl, hown7⟩, hb7⟩; obtain ⟨aL, nL, cL, hv7⟩ := ownsK_form hown7; subst hv7; have hsz7 := hb7.size; have hB7 := (hb7.block w.heap.size (by omega)).trans HB6.out; have y12 : w7.cell? ⟨w.heap.size, 12, none⟩ = some (.slice aa nn cc) := cell_of_row w7 _ 12 _ _ _ hB7; have fB : ∀ j, w7.frozen? ⟨w.heap.size, j, none⟩ = false := fun j => frozen_of_row w7 _ j _ _ hB7; have HB7 := hid hB7; have HO7 : Hid (w7.ownsRow wb.heap.size 119 3 (.slice aL nL cL) gl.length (entsCells gl)) := ownsRow_base hown7 hsz6; clear hB7 hown7))
        have HL7 := hid ((hb7.block (w.heap.size + 1) (by omega)).trans HL6.out)
        have HR7 := hid ((hb7.block (w.heap.size + 1 + 1) (by omega)).trans HR6.out)
        have HW7 : Hid (Below w.heap.size w w7) := below_tr HW6.out hb7; clear hb7 HB6 HL6 HR6 HE6 HW6 k6 y12 fB cg; have hBn : (w7.setCell ⟨w.heap.size, 12, none⟩ (.slice aL nL cL)).heap[w.heap.size]? = some (.cells #[.int .i64 s.role, .int .i64 s.step, .int .i64 s.sent, .int .i64 ((l.count : Int) + 1), .int .i64 s.prev, .int .i64 s.skip, .int .i64 s.cap, .string (str s.root), .string (str s.out), .string nx, .int .i64 s.secret, .int .i64 s.peer, .slice aL nL cL] 63) := heap_setCell_same _ _ _ _ _ _ HB7.out
        have hLn := (heap_setCell_other w7 ⟨w.heap.size, 12, none⟩ (w.heap.size + 1) (.slice aL nL cL) (by show w.heap.size + 1 ≠ w.heap.size; omega)).trans HL7.out
        have hRn := (heap_setCell_other w7 ⟨w.heap.size, 12, none⟩ (w.heap.size + 1 + 1) (.slice aL nL cL) (by show w.heap.size + 1 + 1 ≠ w.heap.size; omega)).trans HR7.out
        have hOn : (w7.setCell ⟨w.heap.size, 12, none⟩ (.slice aL nL cL)).ownsRow wb.heap.size 119 3 (.slice aL nL cL) gl.length (entsCells gl) := ownsRow_setCell_below HO7.out (by show w.heap.size < _; omega) _
        have hWn : Below w.heap.size w (w7.setCell ⟨w.heap.size, 12, none⟩ (.slice aL nL cL)) := HW7.out.setCell (by exact Nat.le_refl _) _
        have hSn : (w7.setCell ⟨w.heap.size, 12, none⟩ (.slice aL nL cL)).heap.size = w7.heap.size := World.size_setCell _ _ _
        generalize (w7.setCell ⟨w.heap.size, 12, none⟩ (.slice aL nL cL)) = wz at hBn hLn hRn hOn hWn hSn ⊢
        obtain ⟨u0, u1, u2, u3, u4, u5, u6, u7, u8, u9, u10, u11, u12⟩ := cells13 hBn; obtain ⟨a0, a1, a2, a3, a4, a5, a6, a7, a8, a9, a10, a11, a12⟩ := cells13 hRn
        have fA : ∀ j, wz.frozen? ⟨w.heap.size + 1 + 1, j, none⟩ = false := fun j => frozen_of_row wz _ j _ _ hRn
        have HZ := hid hWn; have HOZ := hid hOn; clear hBn hLn hRn hOn hWn hSn HB7 HL7 HR7 HO7 HW7
        go_region
        all_goals go_wp2
        all_goals (try simp only [Exit.inBlock, Exit.then])
        all_goals (refine bodyPost_ret (v := .tuple #[.string ky, .agg #[.int .i64 s.role, .int .i64 s.step, .int .i64 s.sent, .int .i64 ((l.count : Int) + 1), .int .i64 s.prev, .int .i64 s.skip, .int .i64 s.cap, .string (str s.root), .string (str s.out), .string nx, .int .i64 s.secret, .int .i64 s.peer, .slice aL nL cL], .int .i64 0]) ?_ ?_ ?_)
        all_goals first
          | rfl
          | (rw [results_tct (fn := Tryz.f142) rfl]; simp [go_sem, a0, a1, a2, a3, a4, a5, a6, a7, a8, a9, a10, a11, a12])
          | (refine ⟨⟨ky, dx, aL, nL, cL, by rw [HQ.out, HDX.out], fun _ => ⟨by rw [HQ.out, HKY.out], by rw [HQ.out], ?_⟩⟩, ?_⟩
             · rw [HDK.out]
               refine ownsRow_base (base := wb.heap.size) ?_ (by omega)
               repeat (first | (with_reducible refine ownsRow_setCell_below ?_ (by show w.heap.size + 1 + 1 < wb.heap.size; omega) _) | (with_reducible refine ownsRow_drew ?_))
               exact HOZ.out
             · repeat (first | (with_reducible refine Below.setCell ?_ (by show w.heap.size ≤ w.heap.size + 1 + 1; omega) _) | (with_reducible refine Below.drew ?_))
               exact HZ.out)
end Go.Proofs.YtabpkohcimiceabGreat
