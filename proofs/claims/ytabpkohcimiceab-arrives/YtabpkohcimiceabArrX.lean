import Derived.Test.YtabpkohcimiceabTwoB
namespace Go.Proofs.Ytabpkohcimiceab
set_option maxRecDepth 100000
set_option maxHeartbeats 1000000
open Go.RowKit
set_option linter.unusedVariables false
set_option linter.unusedSimpArgs false
def StepV (L : List LtM) (first v k : Nat) : Prop := first ≤ v ∧ (∀ j, j < k → (L.getD j ltZ).out = true → (L.getD j ltZ).step + 1 ≤ v) ∧ (v = first ∨ ∃ j, j < k ∧ (L.getD j ltZ).out = true ∧ v = (L.getD j ltZ).step + 1)
theorem StepV.keep {L : List LtM} {first v k : Nat} (h : StepV L first v k) (hk : (L.getD k ltZ).out = true → (L.getD k ltZ).step + 1 ≤ v) : StepV L first v (k + 1) := by
  obtain ⟨h1, h2, h3⟩ := h
  refine ⟨h1, fun j hj ho => ?_, h3.imp id (fun ⟨j, a, b⟩ => ⟨j, by omega, b⟩)⟩
  rcases Nat.lt_or_ge j k with q | q
  · exact h2 j q ho
  · obtain rfl : j = k := by omega
    exact hk ho
theorem StepV.rise {L : List LtM} {first v k : Nat} (h : StepV L first v k) (ho : (L.getD k ltZ).out = true) (hv : v ≤ (L.getD k ltZ).step) : StepV L first ((L.getD k ltZ).step + 1) (k + 1) := by
  obtain ⟨h1, h2, h3⟩ := h
  refine ⟨by omega, fun j hj hoj => ?_, .inr ⟨k, by omega, ho, rfl⟩⟩
  rcases Nat.lt_or_ge j k with q | q
  · have := h2 j q hoj; omega
  · obtain rfl : j = k := by omega
    exact Nat.le_refl _
theorem stepOf_any (xv : Option Addr) (xn xc base : Nat) (L : List LtM) (first : Nat) (w : World) (hrow : w.ownsRow base 63 7 (.slice xv xn xc) L.length (ltsC L)) (hL : L.length ≤ 100000) (hf : first ≤ 1) (hst : ∀ j, (L.getD j ltZ).step ≤ 1000) :
    Calls Try.prog 11 #[.slice xv xn xc, .int .i64 first] w fun e w' => ∃ v, e = .returned (.int .i64 (v : Nat)) ∧ StepV L first v L.length ∧ w' = w := by
  obtain ⟨xa, xb, hxv⟩ := ltForm hrow
  injection hxv with x1 x2 x3
  subst x2; clear x1 x3 xa xb; have HROW := hid hrow; clear hrow
  go_enter Try.func11, Try.ntmps11
  go_wp2
  go_loopg [5, 6] 1000000 (fun g n c wr => ∃ j v : Nat, n = .int .i64 v ∧ c = .int .i64 j ∧ j ≤ L.length ∧ g + j = 1000000 ∧ v ≤ 1001 ∧ StepV L first v j ∧ wr = w)
  case atStart => exact ⟨0, first, rfl, rfl, Nat.zero_le _, rfl, by omega, ⟨Nat.le_refl _, fun j hj => by omega, .inl rfl⟩, rfl⟩
  case round =>
    obtain ⟨j, v, rfl, rfl, hj, hgj, hv, hsv, rfl⟩ := hrel; have HSV := hid hsv; clear hsv
    by_cases hlt : j < L.length
    · obtain ⟨g, cap, hvv, hgb, _, _, c2', c6', _⟩ := ltRow HROW.out hlt
      injection hvv with v1 v2 v3
      subst v1 v3
      have hjl : (j : Int) < (L.length : Int) := by omega
      have hj0 : (0 : Int) ≤ (j : Int) := by omega
      have hs := hst j
      cases ho : (L.getD j ltZ).out with
      | true =>
        rw [ho] at c6'
        by_cases hge : v ≤ (L.getD j ltZ).step
        · have HR := hid (HSV.out.rise ho hge)
          have hgI : (v : Int) ≤ ((L.getD j ltZ).step : Int) := by omega
          have hgN : decide (v ≤ (L.getD j ltZ).step) = true := by rw [decide_eq_true_eq]; omega
          generalize (L.getD j ltZ).step = es at *
          clear ho; go_wp2
          go_roundg (gk - 1)
          case measure => omega
          case rel => exact ⟨j + 1, es + 1, by simp, by simp, by omega, by omega, by omega, HR.out, rfl⟩
        · have HR := hid (HSV.out.keep (fun _ => by omega))
          have hgI : ¬ (v : Int) ≤ ((L.getD j ltZ).step : Int) := by omega
          have hgN : decide (v ≤ (L.getD j ltZ).step) = false := by rw [decide_eq_false_iff_not]; omega
          generalize (L.getD j ltZ).step = es at *
          clear ho; go_wp2
          go_roundg (gk - 1)
          case measure => omega
          case rel => exact ⟨j + 1, v, by simp, by simp, by omega, by omega, by omega, HR.out, rfl⟩
      | false =>
        have HR := hid (HSV.out.keep (fun q => by rw [ho] at q; cases q))
        rw [ho] at c6'
        generalize (L.getD j ltZ).step = es at *
        clear ho; go_wp2
        go_roundg (gk - 1)
        case measure => omega
        case rel => exact ⟨j + 1, v, by simp, by simp, by omega, by omega, by omega, HR.out, rfl⟩
    · obtain rfl : j = L.length := by omega
      have hjl : ¬ (L.length : Int) < (L.length : Int) := by omega
      go_wp2; go_ret; exact ⟨v, rfl, HSV.out, rfl⟩
def lateAll (L : List LtM) (i : Nat) : Nat → Nat
  | 0 => 0
  | n + 1 => lateAll L i n + if n = i ∨ (L.getD n ltZ).out = true then 0 else 1
def lateOf (L : List LtM) (i st : Nat) : Nat → Nat
  | 0 => 0
  | n + 1 => lateOf L i st n + if n ≠ i ∧ (L.getD n ltZ).out = false ∧ (L.getD n ltZ).step = st then 1 else 0
theorem lateAll_le (L : List LtM) (i : Nat) : ∀ n, lateAll L i n ≤ n
  | 0 => Nat.le_refl _
  | n + 1 => by
    have := lateAll_le L i n
    rw [lateAll]; split <;> omega
theorem lateOf_le (L : List LtM) (i st : Nat) : ∀ n, lateOf L i st n ≤ n
  | 0 => Nat.le_refl _
  | n + 1 => by
    have := lateOf_le L i st n
    rw [lateOf]; split <;> omega
def WaitQ (L : List LtM) (i skip cap : Nat) : Prop := (∀ k, i < k → (L.getD k ltZ).out = false) → lateAll L i i ≤ cap ∧ ∀ k, k < i → (L.getD k ltZ).out = false → lateOf L i (L.getD k ltZ).step i ≤ skip
def WaitsOut (L : List LtM) (i skip cap : Nat) (e : Ending) : Prop := ∃ b, e = .returned (.bool b) ∧ (b = true → WaitQ L i skip cap)
theorem waits_any (xv : Option Addr) (xn xc base : Nat) (L : List LtM) (i skip cap : Nat) (w : World) (hrow : w.ownsRow base 63 7 (.slice xv xn xc) L.length (ltsC L)) (hL : L.length ≤ 100000) (hi : i < L.length) (hsk : skip ≤ 1000) (hcp : cap ≤ 1000) (hst : ∀ j, (L.getD j ltZ).step ≤ 1000) :
    Calls Try.prog 13 #[.slice xv xn xc, .int .i64 i, .int .i64 skip, .int .i64 cap] w fun e w' => WaitsOut L i skip cap e ∧ Below w.heap.size w w' := by
  obtain ⟨xa, xb, hxv⟩ := ltForm hrow
  injection hxv with x1 x2 x3
  subst x2; clear x1 x3 xa xb; have HROW := hid hrow; clear hrow
  go_enter Try.func13, Try.ntmps13
  go_wp2
  go_loopg [9, 10] 1000000 (fun g n c wr => ∃ k v : Nat, n = .int .i64 v ∧ c = .int .i64 k ∧ k ≤ L.length ∧ g + k = 1000000 ∧ v < L.length ∧ i ≤ v ∧ (v = i ∨ (L.getD v ltZ).out = true) ∧ wr = w)
  case atStart => exact ⟨0, i, rfl, rfl, Nat.zero_le _, rfl, hi, Nat.le_refl _, .inl rfl, rfl⟩
  case round =>
    obtain ⟨k, v, rfl, rfl, hk, hgk, hv, hiv, hvo, rfl⟩ := hrel; have HVO := hid hvo; clear hvo
    by_cases hlt : k < L.length
    · obtain ⟨g, gc, hvv, hgb, _, _, _, c6', _⟩ := ltRow HROW.out hlt
      injection hvv with v1 v2 v3
      subst v1 v3
      have hjl : (k : Int) < (L.length : Int) := by omega
      have hj0 : (0 : Int) ≤ (k : Int) := by omega
      cases ho : (L.getD k ltZ).out with
      | true =>
        have HO := hid ho
        rw [ho] at c6'
        clear ho
        by_cases hge : v < k
        · have hgI : (v : Int) < (k : Int) := by omega
          have hgN : decide (v < k) = true := by rw [decide_eq_true_eq]; omega
          go_wp2
          go_roundg (gk - 1)
          case measure => omega
          case rel => exact ⟨k + 1, k, rfl, by simp, by omega, by omega, by omega, by omega, .inr HO.out, rfl⟩
        · have hgI : ¬ (v : Int) < (k : Int) := by omega
          have hgN : decide (v < k) = false := by rw [decide_eq_false_iff_not]; omega
          go_wp2
          go_roundg (gk - 1)
          case measure => omega
          case rel => exact ⟨k + 1, v, rfl, by simp, by omega, by omega, by omega, by omega, HVO.out, rfl⟩
      | false =>
        rw [ho] at c6'
        clear ho; go_wp2
        go_roundg (gk - 1)
        case measure => omega
        case rel => exact ⟨k + 1, v, rfl, by simp, by omega, by omega, by omega, by omega, HVO.out, rfl⟩
    · obtain rfl : k = L.length := by omega
      have hjl : ¬ (L.length : Int) < (L.length : Int) := by omega
      go_wp2
      go_loopg [11, 12, 13, 14] 1000000 (fun g n c x y wr => ∃ k : Nat, n = .int .i64 (lateAll L i k : Nat) ∧ c = .int .i64 k ∧ k ≤ v ∧ g + k = 1000000 ∧ (∀ j, j < k → j ≠ i → (L.getD j ltZ).out = false → lateOf L i (L.getD j ltZ).step v ≤ skip) ∧ Below _ _ wr)
      case atStart => exact ⟨0, rfl, rfl, Nat.zero_le _, rfl, fun j hj => by omega, Below.refl _ _⟩
      case round =>
        obtain ⟨k, rfl, rfl, hkv, hgk2, hof, hb2⟩ := hrel; have HROW2 := hid (ownsRow_below HROW.out hb2); have HB2 := hid hb2; clear hb2; have HOF := hid hof; clear hof; have hab := lateAll_le L i k
        by_cases hlt2 : k < v
        · obtain ⟨g, gc, hvv, hgb, _, _, c2', c6', _⟩ := ltRow HROW2.out (show k < L.length by omega)
          injection hvv with v1 v2 v3
          subst v1 v3
          have hkl : (k : Int) < (v : Int) := by omega
          have hkl2 : (k : Int) < (L.length : Int) := by omega
          have hk0 : (0 : Int) ≤ (k : Int) := by omega
          by_cases hki : k = i
          · have HA : Hid (lateAll L i (k + 1) = lateAll L i k) := by show _ = _; rw [lateAll, if_pos (.inl hki)]; rfl
            have HF : Hid (∀ j, j < k + 1 → j ≠ i → (L.getD j ltZ).out = false → lateOf L i (L.getD j ltZ).step v ≤ skip) := fun j hj hne ho => HOF.out j (by omega) hne ho
            have nI : ((k : Int) == (i : Int)) = true := by rw [beq_iff_eq]; omega
            have nN : (k == i) = true := by rw [beq_iff_eq]; exact hki
            generalize lateAll L i k = al at *
            generalize (L.getD k ltZ).out = oo at *
            clear hki; go_wp2
            go_roundg (1000000 - (k + 1))
            case measure => omega
            case rel => exact ⟨k + 1, by rw [HA.out], by simp, by omega, by omega, HF.out, HB2.out⟩
          · cases ho : (L.getD k ltZ).out with
            | true =>
              have HA : Hid (lateAll L i (k + 1) = lateAll L i k) := by show _ = _; rw [lateAll, if_pos (.inr ho)]; rfl
              have HF : Hid (∀ j, j < k + 1 → j ≠ i → (L.getD j ltZ).out = false → lateOf L i (L.getD j ltZ).step v ≤ skip) := fun j hj hne hoj => by
                rcases Nat.lt_or_ge j k with q | q
                · exact HOF.out j q hne hoj
                · obtain rfl : j = k := by omega
                  rw [ho] at hoj; cases hoj
              have nI : ((k : Int) == (i : Int)) = false := by rw [beq_eq_false_iff_ne]; omega
              have nN : (k == i) = false := by rw [beq_eq_false_iff_ne]; omega
              have nP : ¬ (k : Int) = (i : Int) := by omega
              rw [ho] at c6'
              generalize lateAll L i k = al at *
              clear hki ho; go_wp2
              go_roundg (1000000 - (k + 1))
              case measure => omega
              case rel => exact ⟨k + 1, by rw [HA.out], by simp, by omega, by omega, HF.out, HB2.out⟩
            | false =>
              have HA : Hid (lateAll L i (k + 1) = lateAll L i k + 1) := by show _ = _; rw [lateAll, if_neg (by rintro (q | q); exact hki q; rw [ho] at q; cases q)]
              have HO := hid ho
              have nI : ((k : Int) == (i : Int)) = false := by rw [beq_eq_false_iff_ne]; omega
              have nN : (k == i) = false := by rw [beq_eq_false_iff_ne]; omega
              have nP : ¬ (k : Int) = (i : Int) := by omega
              rw [ho] at c6'
              have hsk2 := hst k
              generalize lateAll L i k = al at *
              have HSK : Hid (∃ st, st = (L.getD k ltZ).step) := ⟨_, rfl⟩; obtain ⟨st, hste⟩ := HSK.out
              rw [← hste] at c2' hsk2
              have HST := hid hste; clear hki ho hste HSK; go_wp2
              go_loopg [13, 14] 1000000 (fun g n c wr => ∃ j : Nat, n = .int .i64 (lateOf L i st j : Nat) ∧ c = .int .i64 j ∧ j ≤ v ∧ g + j = 1000000 ∧ Below _ _ wr)
              case atStart => exact ⟨0, rfl, rfl, Nat.zero_le _, rfl, Below.refl _ _⟩
              case round =>
                obtain ⟨j, rfl, rfl, hjv, hgj, hb3⟩ := hrel; have HROW3 := hid (ownsRow_below HROW2.out hb3); have HB3 := hid hb3
                have c2x := (ltRow HROW3.out (show k < L.length by omega))
                clear hb3; have hob := lateOf_le L i st j
                by_cases hlt3 : j < v
                · obtain ⟨gx, gcx, hvx, _, _, _, d2', d6', _⟩ := ltRow HROW3.out (show j < L.length by omega)
                  obtain ⟨gy, gcy, hvy, _, _, _, e2', _, _⟩ := c2x
                  rw [← HST.out] at e2'
                  injection hvx with v1x v2x v3x
                  injection v1x with v4x
                  injection v4x with v5x
                  subst v5x
                  injection hvy with v1y v2y v3y
                  injection v1y with v4y
                  injection v4y with v5y
                  subst v5y; clear v3x v3y
                  have hjl3 : (j : Int) < (v : Int) := by omega
                  have hjl4 : (j : Int) < (L.length : Int) := by omega
                  have hj03 : (0 : Int) ≤ (j : Int) := by omega
                  by_cases hji : j = i
                  · have HC : Hid (lateOf L i st (j + 1) = lateOf L i st j) := by show _ = _; rw [lateOf, if_neg (by rintro ⟨q1, q2, q3⟩; exact q1 hji)]; rfl
                    have mI : ((j : Int) == (i : Int)) = true := by rw [beq_iff_eq]; omega
                    have mN : (j == i) = true := by rw [beq_iff_eq]; exact hji
                    have mB : ((j : Int) != (i : Int)) = false := by rw [bne, mI]; rfl
                    have mC : (j != i) = false := by rw [bne, mN]; rfl
                    generalize (L.getD j ltZ).out = oo at *
                    generalize (L.getD j ltZ).step = sj at *
                    clear hji
                    generalize lateOf L i st j = of at *
                    go_upto_region 17 with fail
                    go_quiet (fail)
                    go_wp2
                    go_roundg (1000000 - (j + 1))
                    case measure => omega
                    case rel => exact ⟨j + 1, by rw [HC.out], by simp, by omega, by omega, ⟨HB3.out.os, HB3.out.tape, HB3.out.output, HB3.out.size, HB3.out.block⟩⟩
                  · cases hoj : (L.getD j ltZ).out with
                    | true =>
                      have HC : Hid (lateOf L i st (j + 1) = lateOf L i st j) := by show _ = _; rw [lateOf, if_neg (by rintro ⟨q1, q2, q3⟩; rw [hoj] at q2; cases q2)]; rfl
                      have mI : ((j : Int) == (i : Int)) = false := by rw [beq_eq_false_iff_ne]; omega
                      have mN : (j == i) = false := by rw [beq_eq_false_iff_ne]; omega
                      have mP : ¬ (j : Int) = (i : Int) := by omega
                      have mB : ((j : Int) != (i : Int)) = true := by rw [bne, mI]; rfl
                      have mC : (j != i) = true := by rw [bne, mN]; rfl
                      rw [hoj] at d6'
                      generalize (L.getD j ltZ).step = sj at *
                      clear hji hoj
                      generalize lateOf L i st j = of at *
                      go_upto_region 17 with fail
                      go_quiet (fail)
                      go_wp2
                      go_roundg (1000000 - (j + 1))
                      case measure => omega
                      case rel => exact ⟨j + 1, by rw [HC.out], by simp, by omega, by omega, ⟨HB3.out.os, HB3.out.tape, HB3.out.output, HB3.out.size, HB3.out.block⟩⟩
                    | false =>
                      have hsj := hst j
                      by_cases hss : (L.getD j ltZ).step = st
                      · have HC : Hid (lateOf L i st (j + 1) = lateOf L i st j + 1) := by show _ = _; rw [lateOf, if_pos ⟨hji, hoj, hss⟩]
                        have mI : ((j : Int) == (i : Int)) = false := by rw [beq_eq_false_iff_ne]; omega
                        have mN : (j == i) = false := by rw [beq_eq_false_iff_ne]; omega
                        have mP : ¬ (j : Int) = (i : Int) := by omega
                        have mB : ((j : Int) != (i : Int)) = true := by rw [bne, mI]; rfl
                        have mC : (j != i) = true := by rw [bne, mN]; rfl
                        rw [hoj] at d6'
                        rw [hss] at d2'
                        clear hji hoj hss hsj
                        generalize lateOf L i st j = of at *
                        go_upto_region 17 with fail
                        go_quiet (fail)
                        go_wp2
                        go_roundg (1000000 - (j + 1))
                        case measure => omega
                        case rel => exact ⟨j + 1, by rw [HC.out]; simp, by simp, by omega, by omega, ⟨HB3.out.os, HB3.out.tape, HB3.out.output, HB3.out.size, HB3.out.block⟩⟩
                      · have HC : Hid (lateOf L i st (j + 1) = lateOf L i st j) := by show _ = _; rw [lateOf, if_neg (by rintro ⟨q1, q2, q3⟩; exact hss q3)]; rfl
                        have mI : ((j : Int) == (i : Int)) = false := by rw [beq_eq_false_iff_ne]; omega
                        have mN : (j == i) = false := by rw [beq_eq_false_iff_ne]; omega
                        have mP : ¬ (j : Int) = (i : Int) := by omega
                        have mB : ((j : Int) != (i : Int)) = true := by rw [bne, mI]; rfl
                        have mC : (j != i) = true := by rw [bne, mN]; rfl
                        rw [hoj] at d6'
                        generalize (L.getD j ltZ).step = sj at *
                        have lI : ((sj : Int) == (st : Int)) = false := by rw [beq_eq_false_iff_ne]; omega
                        have lN : (sj == st) = false := by rw [beq_eq_false_iff_ne]; omega
                        have lP : ¬ (sj : Int) = (st : Int) := by omega
                        clear hji hoj hss
                        generalize lateOf L i st j = of at *
                        go_upto_region 17 with fail
                        go_quiet (fail)
                        go_wp2
                        go_roundg (1000000 - (j + 1))
                        case measure => omega
                        case rel => exact ⟨j + 1, by rw [HC.out], by simp, by omega, by omega, ⟨HB3.out.os, HB3.out.tape, HB3.out.output, HB3.out.size, HB3.out.block⟩⟩
                · obtain rfl : j = v := by omega
                  have hjl3 : ¬ (j : Int) < (j : Int) := by omega
                  obtain ⟨of, hofe⟩ : ∃ of, of = lateOf L i st j := ⟨_, rfl⟩
                  rw [← hofe] at hob ⊢
                  have HOE := hid hofe; clear hofe
                  by_cases hsb : skip < of
                  · have hsI : (skip : Int) < (of : Int) := by omega
                    have hsN : decide (skip < of) = true := by rw [decide_eq_true_eq]; exact hsb
                    go_wp2; go_ret
                    exact ⟨⟨false, rfl, fun q => (by cases q)⟩, below_tr HB2.out HB3.out⟩
                  · have hsI : ¬ (skip : Int) < (of : Int) := by omega
                    have hsN : decide (skip < of) = false := by rw [decide_eq_false_iff_not]; exact hsb
                    have HF : Hid (∀ jx, jx < k + 1 → jx ≠ i → (L.getD jx ltZ).out = false → lateOf L i (L.getD jx ltZ).step j ≤ skip) := fun jx hj hne hoj => by
                      rcases Nat.lt_or_ge jx k with q | q
                      · exact HOF.out jx q hne hoj
                      · obtain rfl : jx = k := by omega
                        rw [← HST.out, ← HOE.out]; omega
                    go_wp2
                    go_roundg (1000000 - (k + 1))
                    case measure => omega
                    case rel => exact ⟨k + 1, by rw [HA.out]; simp, by simp, by omega, by omega, HF.out, below_tr HB2.out HB3.out⟩
        · obtain rfl : k = v := by omega
          have hkl : ¬ (k : Int) < (k : Int) := by omega
          have HF : Hid (lateAll L i k ≤ cap → WaitQ L i skip cap) := fun hc hz => by
            have hki : k = i := by
              rcases HVO.out with q | q
              · exact q
              · rcases Nat.lt_or_ge i k with z | z
                · rw [hz k z] at q; cases q
                · omega
            subst hki
            exact ⟨hc, fun j hj ho => HOF.out j hj (by omega) ho⟩
          generalize lateAll L i k = al at *
          go_wp2; go_ret
          exact ⟨⟨_, rfl, fun q => HF.out (by simpa using q)⟩, HB2.out⟩
def nextQ (x y : LtM) : Prop := (y.step = x.step ∧ y.count = x.count + 1 ∧ y.prev = x.prev) ∨ (y.step = x.step + 2 ∧ y.count = 0 ∧ y.prev = x.count + 1)
def lateI (L : List LtM) : Nat → List (Nat × Nat)
  | 0 => []
  | n + 1 => lateI L n ++ if (L.getD n ltZ).out = true then [] else [((L.getD n ltZ).step, (L.getD n ltZ).count)]
def idsL (l : List EntM) : List (Nat × Nat) := l.map fun e => (e.step, e.count)
def spanI (st c : Nat) : Nat → List (Nat × Nat)
  | 0 => []
  | d + 1 => spanI st c d ++ [(st, c + d)]
def stepI (l : List (Nat × Nat)) (st : Nat) : Nat := (l.filter fun e => e.1 == st).length
theorem idsL_append (a b : List EntM) : idsL (a ++ b) = idsL a ++ idsL b := List.map_append
theorem idsL_span (ch : List UInt8) (st c : Nat) : ∀ d, idsL (spanL ch st c d) = spanI st c d
  | 0 => rfl
  | d + 1 => by rw [spanL, idsL_append, idsL_span ch st c d, spanI]; rfl
theorem stepI_append (a b : List (Nat × Nat)) (st : Nat) : stepI (a ++ b) st = stepI a st + stepI b st := by
  rw [stepI, List.filter_append, List.length_append]; rfl
theorem ofL_ids (l : List EntM) (st : Nat) : ofL l st = stepI (idsL l) st := by
  rw [ofL, stepI, idsL, List.filter_map, List.length_map]; rfl
theorem stepI_span (st c : Nat) : ∀ d, stepI (spanI st c d) st = d
  | 0 => rfl
  | d + 1 => by
    rw [spanI, stepI_append, stepI_span st c d]
    congr 1
    simp [stepI]
theorem stepI_one (a b st : Nat) : stepI [(a, b)] st = if a = st then 1 else 0 := by
  rw [stepI, List.filter_cons, List.filter_nil]
  by_cases q : a = st
  · rw [if_pos (by simp [q]), if_pos q]; rfl
  · rw [if_neg (by simp [q]), if_neg q]; rfl
theorem idsL_length (l : List EntM) : (idsL l).length = l.length := List.length_map _
structure LateQ (s t : StM) (L : List LtM) (m : Nat) : Prop where
  le : m ≤ L.length
  chain : ∀ k, k + 1 < L.length → nextQ (L.getD k ltZ) (L.getD (k + 1) ltZ)
  first : 0 < L.length → (L.getD 0 ltZ).count = 0 ∧ (L.getD 0 ltZ).step ≤ 2
  low : ∀ k, k < L.length → 1 ≤ (L.getD k ltZ).step ∧ (L.getD k ltZ).step ≤ s.step
  last0 : L.length = 0 → s.sent = 0 ∧ s.step ≤ 2
  last1 : ∀ k, k + 1 = L.length → (s.step = (L.getD k ltZ).step ∧ s.sent = (L.getD k ltZ).count + 1 ∧ s.prev = (L.getD k ltZ).prev) ∨ (s.step = (L.getD k ltZ).step + 2 ∧ s.sent = 0 ∧ s.prev = (L.getD k ltZ).count + 1)
  num : (L.filter fun x => x.step == s.step).length = s.sent
  outs : ∀ k, m ≤ k → (L.getD k ltZ).out = false
  top0 : m = 0 → t.step ≤ 1 ∧ t.got = 0
  top1 : ∀ k, k + 1 = m → (L.getD k ltZ).out = true ∧ t.step = (L.getD k ltZ).step + 1 ∧ t.got = (L.getD k ltZ).count + 1
  kept : idsL t.kept = lateI L m
theorem chain_mono {L : List LtM} (h : ∀ k, k + 1 < L.length → nextQ (L.getD k ltZ) (L.getD (k + 1) ltZ)) (i : Nat) : ∀ j, i < j → j < L.length → (L.getD i ltZ).step < (L.getD j ltZ).step ∨ ((L.getD i ltZ).step = (L.getD j ltZ).step ∧ (L.getD i ltZ).count < (L.getD j ltZ).count)
  | 0, hi, _ => by omega
  | j + 1, hi, hj => by
    have hn := h j hj
    rcases Nat.lt_or_ge i j with q | q
    · have ih := chain_mono h i j q (by omega)
      rcases hn with ⟨a, b, _⟩ | ⟨a, b, _⟩ <;> rcases ih with c | ⟨c, d⟩ <;> omega
    · obtain rfl : i = j := by omega
      rcases hn with ⟨a, b, _⟩ | ⟨a, b, _⟩ <;> omega
theorem chain_ge {L : List LtM} (h : ∀ k, k + 1 < L.length → nextQ (L.getD k ltZ) (L.getD (k + 1) ltZ)) {i j : Nat} (hij : i ≤ j) (hj : j < L.length) : (L.getD i ltZ).step ≤ (L.getD j ltZ).step := by
  rcases Nat.lt_or_ge i j with q | q
  · have := chain_mono h i j q hj; omega
  · obtain rfl : i = j := by omega
    exact Nat.le_refl _
theorem chain_par {L : List LtM} (h : ∀ k, k + 1 < L.length → nextQ (L.getD k ltZ) (L.getD (k + 1) ltZ)) (i : Nat) : ∀ d, i + d < L.length → (L.getD (i + d) ltZ).step % 2 = (L.getD i ltZ).step % 2
  | 0, _ => rfl
  | d + 1, hj => by
    have ih := chain_par h i d (by omega)
    have hn := h (i + d) hj; rw [← Nat.add_assoc]
    rcases hn with ⟨a, _⟩ | ⟨a, _⟩ <;> omega
theorem chain_same {L : List LtM} (h : ∀ k, k + 1 < L.length → nextQ (L.getD k ltZ) (L.getD (k + 1) ltZ)) (i : Nat) : ∀ d, i + d < L.length → (L.getD (i + d) ltZ).step = (L.getD i ltZ).step → (L.getD (i + d) ltZ).count = (L.getD i ltZ).count + d ∧ (L.getD (i + d) ltZ).prev = (L.getD i ltZ).prev
  | 0, _, _ => ⟨rfl, rfl⟩
  | d + 1, hj, hs => by
    have hn := h (i + d) hj
    rw [← Nat.add_assoc] at hj hs ⊢
    have g1 := chain_ge h (i := i) (j := i + d) (by omega) (by omega)
    have g2 := chain_ge h (i := i + d) (j := i + d + 1) (by omega) hj
    have ih := chain_same h i d (by omega) (by omega)
    rcases hn with ⟨a, b, c⟩ | ⟨a, _⟩
    · exact ⟨by rw [b, ih.1]; omega, by rw [c, ih.2]⟩
    · omega
theorem chain_turn {L : List LtM} (h : ∀ k, k + 1 < L.length → nextQ (L.getD k ltZ) (L.getD (k + 1) ltZ)) (i : Nat) : ∀ d, i + d < L.length → (L.getD (i + d) ltZ).step = (L.getD i ltZ).step + 2 → ∃ b, i < b ∧ b ≤ i + d ∧ (∀ k, i ≤ k → k < b → (L.getD k ltZ).step = (L.getD i ltZ).step) ∧ (∀ k, b ≤ k → k ≤ i + d → (L.getD k ltZ).step = (L.getD i ltZ).step + 2) ∧ (L.getD b ltZ).count = 0 ∧ (L.getD b ltZ).prev = (L.getD (b - 1) ltZ).count + 1
  | 0, _, hs => by rw [Nat.add_zero] at hs; omega
  | d + 1, hj, hs => by
    rw [← Nat.add_assoc] at hj hs ⊢
    have hn := h (i + d) hj
    rcases hn with ⟨a, b, c⟩ | ⟨a, b, c⟩
    · obtain ⟨b, b1, b2, b3, b4, b5, b6⟩ := chain_turn h i d (by omega) (by omega)
      refine ⟨b, b1, by omega, b3, fun k k1 k2 => ?_, b5, b6⟩
      rcases Nat.lt_or_ge k (i + d + 1) with q | q
      · exact b4 k k1 (by omega)
      · obtain rfl : k = i + d + 1 := by omega
        exact hs
    · refine ⟨i + d + 1, by omega, by omega, fun k k1 k2 => ?_, fun k k1 k2 => ?_, b, ?_⟩
      · have g1 := chain_ge h k1 (show k < L.length by omega)
        have g2 := chain_ge h (show k ≤ i + d by omega) (by omega)
        omega
      · obtain rfl : k = i + d + 1 := by omega
        exact hs
      · rw [Nat.add_sub_cancel]; exact c
theorem late_more (L : List LtM) (m st c : Nat) : ∀ d, (∀ k, m ≤ k → k < m + d → (L.getD k ltZ).out = false ∧ (L.getD k ltZ).step = st ∧ (L.getD k ltZ).count = c + (k - m)) → lateI L (m + d) = lateI L m ++ spanI st c d
  | 0, _ => by rw [spanI, List.append_nil]; rfl
  | d + 1, h => by
    obtain ⟨h1, h2, h3⟩ := h (m + d) (by omega) (by omega)
    rw [← Nat.add_assoc, lateI, late_more L m st c d (fun k k1 k2 => h k k1 (by omega)), h1, h2, h3, if_neg (by simp), spanI, List.append_assoc, show m + d - m = d by omega]
theorem late_congr (L L' : List LtM) : ∀ n, (∀ k, k < n → (L.getD k ltZ).out = (L'.getD k ltZ).out ∧ (L.getD k ltZ).step = (L'.getD k ltZ).step ∧ (L.getD k ltZ).count = (L'.getD k ltZ).count) → lateI L n = lateI L' n
  | 0, _ => rfl
  | n + 1, h => by
    obtain ⟨h1, h2, h3⟩ := h n (by omega)
    rw [lateI, lateI, late_congr L L' n (fun k hk => h k (by omega)), h1, h2, h3]
theorem late_mem (L : List LtM) (k : Nat) : ∀ n, k < n → (L.getD k ltZ).out = false → ((L.getD k ltZ).step, (L.getD k ltZ).count) ∈ lateI L n
  | 0, h, _ => by omega
  | n + 1, h, ho => by
    rw [lateI, List.mem_append]
    rcases Nat.lt_or_ge k n with q | q
    · exact .inl (late_mem L k n q ho)
    · obtain rfl : k = n := by omega
      right; rw [ho, if_neg (by simp)]; simp
theorem lateAll_len (L : List LtM) (i : Nat) : ∀ n, n ≤ i → lateAll L i n = (lateI L n).length
  | 0, _ => rfl
  | n + 1, h => by
    rw [lateAll, lateI, List.length_append, lateAll_len L i n (by omega)]
    cases (L.getD n ltZ).out with
    | true => rw [if_pos (.inr rfl), if_pos rfl]; rfl
    | false => rw [if_neg (by rintro (q | q); omega; cases q), if_neg (by simp)]; rfl
theorem lateOf_len (L : List LtM) (i st : Nat) : ∀ n, n ≤ i → lateOf L i st n = stepI (lateI L n) st
  | 0, _ => rfl
  | n + 1, h => by
    rw [lateOf, lateI, stepI_append, lateOf_len L i st n (by omega)]
    congr 1
    cases (L.getD n ltZ).out with
    | true => rw [if_neg (by rintro ⟨_, q, _⟩; cases q), if_pos rfl]; rfl
    | false =>
      rw [if_neg (show ¬ false = true by simp)]
      rw [stepI_one]
      by_cases q : (L.getD n ltZ).step = st
      · rw [if_pos ⟨by omega, rfl, q⟩, if_pos q]
      · rw [if_neg (fun z => q z.2.2), if_neg q]
theorem getD_set_at (L : List LtM) (i : Nat) (x : LtM) (h : i < L.length) : (L.set i x).getD i ltZ = x := by
  rw [List.getD_eq_getElem?_getD, List.getElem?_set_self h]; rfl
theorem getD_set_ne (L : List LtM) (i k : Nat) (x : LtM) (h : k ≠ i) : (L.set i x).getD k ltZ = L.getD k ltZ := by
  rw [List.getD_eq_getElem?_getD, List.getElem?_set_ne (fun e => h e.symm), List.getD_eq_getElem?_getD]
theorem setO_same (L : List LtM) (i k : Nat) (h : i < L.length) : ((L.set i { L.getD i ltZ with out := true }).getD k ltZ).step = (L.getD k ltZ).step ∧ ((L.set i { L.getD i ltZ with out := true }).getD k ltZ).count = (L.getD k ltZ).count ∧ ((L.set i { L.getD i ltZ with out := true }).getD k ltZ).prev = (L.getD k ltZ).prev := by
  by_cases q : k = i
  · rw [q, getD_set_at _ _ _ h]; exact ⟨rfl, rfl, rfl⟩
  · rw [getD_set_ne _ _ _ _ q]; exact ⟨rfl, rfl, rfl⟩
theorem setO_num (L : List LtM) (i st : Nat) : ((L.set i { L.getD i ltZ with out := true }).filter fun x => x.step == st).length = (L.filter fun x => x.step == st).length := by
  induction L generalizing i with
  | nil => rfl
  | cons x l ih =>
    cases i with
    | zero =>
      show ((({ x with out := true } : LtM) :: l).filter _).length = _
      rw [List.filter_cons, List.filter_cons]
      show (if (x.step == st) = true then _ else _ : List LtM).length = (if (x.step == st) = true then _ else _ : List LtM).length
      split <;> rfl
    | succ i =>
      have := ih i
      show ((x :: l.set i { l.getD i ltZ with out := true }).filter _).length = _
      rw [List.filter_cons, List.filter_cons]
      split
      · rw [List.length_cons, List.length_cons, this]
      · exact this
theorem late_strike (L : List LtM) (i : Nat) (hi : i < L.length) : ∀ n, (∀ k, k < n → k ≠ i → ¬ ((L.getD k ltZ).step = (L.getD i ltZ).step ∧ (L.getD k ltZ).count = (L.getD i ltZ).count)) → ((lateI L n).filter fun e => !(e.1 == (L.getD i ltZ).step && e.2 == (L.getD i ltZ).count)) = lateI (L.set i { L.getD i ltZ with out := true }) n
  | 0, _ => rfl
  | n + 1, h => by
    rw [lateI, List.filter_append, late_strike L i hi n (fun k hk => h k (by omega)), lateI]
    congr 1
    by_cases q : n = i
    · rw [q, getD_set_at _ _ _ hi, if_pos rfl]
      split
      · rfl
      · simp
    · rw [getD_set_ne _ _ _ _ q]
      have hn := h n (by omega) q
      split
      · rfl
      · rw [List.filter_cons, if_pos, List.filter_nil]
        simp only [Bool.not_eq_true', Bool.and_eq_false_iff, beq_eq_false_iff_ne]
        by_cases z : (L.getD n ltZ).step = (L.getD i ltZ).step
        · exact .inr (fun y => hn ⟨z, y⟩)
        · exact .inl z
theorem idsL_filter (l : List EntM) (st c : Nat) : idsL (l.filter fun e => !isEnt st c e) = (idsL l).filter fun e => !(e.1 == st && e.2 == c) := by
  rw [idsL, idsL, List.filter_map]; rfl
theorem ids_find {l : List EntM} {st c : Nat} (h : (st, c) ∈ idsL l) : ∃ e, l.find? (isEnt st c) = some e := by
  obtain ⟨e, he, hq⟩ := List.mem_map.1 h
  cases hf : l.find? (isEnt st c) with
  | some e => exact ⟨e, rfl⟩
  | none =>
    rw [List.find?_eq_none] at hf
    have := hf e he
    rw [(isEnt_iff _ _ _).2 ⟨congrArg Prod.fst hq, congrArg Prod.snd hq⟩] at this
    simp at this
theorem late_new (L : List LtM) (i : Nat) (hi : i < L.length) : lateI (L.set i { L.getD i ltZ with out := true }) (i + 1) = lateI L i := by
  rw [lateI, getD_set_at _ _ _ hi, if_pos rfl, List.append_nil]
  exact late_congr _ _ i (fun k hk => by rw [getD_set_ne _ _ _ _ (by omega)]; exact ⟨rfl, rfl, rfl⟩)
theorem keyQ_old {t : StM} {n c p pub dn : Nat} (hf : ¬ (t.step + 1 < n ∨ n % 2 = t.step % 2)) (h1 : n ≠ t.step + 1) (h2 : ¬ (n + 1 = t.step ∧ t.got ≤ c)) {e : EntM} (he : t.kept.find? (isEnt n c) = some e) : keyR t (letQ n c p pub) dn = (0, e.key, { t with kept := t.kept.filter fun e => !isEnt n c e }) := by
  have hf' : ¬ (t.step + 1 < (letQ n c p pub).step ∨ (letQ n c p pub).step % 2 = t.step % 2) := hf; have he' : t.kept.find? (isEnt (letQ n c p pub).step (letQ n c p pub).count) = some e := he
  rw [keyR, if_neg hf', if_neg (show ¬ (letQ n c p pub).step = t.step + 1 from h1), if_neg (show ¬ ((letQ n c p pub).step + 1 = t.step ∧ t.got ≤ (letQ n c p pub).count) from h2), oldR, he']
  rfl
theorem keyQ_due {t : StM} {n c p pub dn : Nat} (hf : ¬ (t.step + 1 < n ∨ n % 2 = t.step % 2)) (h1 : n ≠ t.step + 1) (h2 : n + 1 = t.step ∧ t.got ≤ c) (h3 : ¬ skipBad t c) : keyR t (letQ n c p pub) dn = (0, dueKey t c, dueS t c) := by
  have hf' : ¬ (t.step + 1 < (letQ n c p pub).step ∨ (letQ n c p pub).step % 2 = t.step % 2) := hf
  rw [keyR, if_neg hf', if_neg (show ¬ (letQ n c p pub).step = t.step + 1 from h1), if_pos (show ((letQ n c p pub).step + 1 = t.step ∧ t.got ≤ (letQ n c p pub).count) from h2)]
  show dueR t c = _
  rw [dueR, if_neg h3]
theorem keyQ_turn {t : StM} {n c p pub dn : Nat} (hf : ¬ (t.step + 1 < n ∨ n % 2 = t.step % 2)) (h1 : n = t.step + 1) (h2 : ¬ (2 ≤ t.step ∧ skipBad t p)) (h3 : ¬ skipBad (turnS (endS t p) n pub dn) c) : keyR t (letQ n c p pub) dn = (0, dueKey (turnS (endS t p) n pub dn) c, dueS (turnS (endS t p) n pub dn) c) := by
  have hf' : ¬ (t.step + 1 < (letQ n c p pub).step ∨ (letQ n c p pub).step % 2 = t.step % 2) := hf
  rw [keyR, if_neg hf', if_pos (show (letQ n c p pub).step = t.step + 1 from h1), turnR, if_neg (show ¬ (2 ≤ t.step ∧ skipBad t (letQ n c p pub).prev) from h2)]
  show dueR (turnS (endS t p) n pub dn) c = _
  rw [dueR, if_neg h3]
theorem LateQ.reads {s t t' : StM} {L : List LtM} {m m' : Nat} (h : LateQ s t L m) (i : Nat) (hi : i < L.length) (le : m' ≤ L.length) (ho : ∀ k, m' ≤ k → k ≠ i ∧ (L.getD k ltZ).out = false) (h0 : m' ≠ 0) (h1 : ∀ k, k + 1 = m' → (k = i ∨ (L.getD k ltZ).out = true) ∧ t'.step = (L.getD k ltZ).step + 1 ∧ t'.got = (L.getD k ltZ).count + 1) (hk : idsL t'.kept = lateI (L.set i { L.getD i ltZ with out := true }) m') : LateQ s t' (L.set i { L.getD i ltZ with out := true }) m' := by
  have hz := fun k => setO_same L i k hi
  have hl : (L.set i { L.getD i ltZ with out := true }).length = L.length := List.length_set
  refine ⟨by rw [hl]; exact le, fun k hk => ?_, fun h0 => ?_, fun k hk => ?_, fun h0 => ?_, fun k hk => ?_, ?_, fun k hk => ?_, fun q => absurd q h0, fun k hk => ?_, hk⟩
  · rw [hl] at hk
    have := h.chain k hk
    rw [nextQ] at this ⊢
    rw [(hz k).1, (hz k).2.1, (hz k).2.2, (hz (k + 1)).1, (hz (k + 1)).2.1, (hz (k + 1)).2.2]; exact this
  · rw [hl] at h0
    rw [(hz 0).1, (hz 0).2.1]; exact h.first h0
  · rw [hl] at hk
    rw [(hz k).1]; exact h.low k hk
  · rw [hl] at h0; exact h.last0 h0
  · rw [hl] at hk
    rw [(hz k).1, (hz k).2.1, (hz k).2.2]; exact h.last1 k hk
  · rw [setO_num]; exact h.num
  · obtain ⟨q1, q2⟩ := ho k hk
    rw [getD_set_ne _ _ _ _ q1]; exact q2
  · obtain ⟨q1, q2, q3⟩ := h1 k hk; rw [(hz k).1, (hz k).2.1]
    refine ⟨?_, q2, q3⟩
    by_cases q : k = i
    · rw [q, getD_set_at _ _ _ hi]
    · rw [getD_set_ne _ _ _ _ q]; exact q1.resolve_left q
theorem late_old {s t : StM} {L : List LtM} {m : Nat} (h : LateQ s t L m) (i : Nat) (him : i < m) (ho : (L.getD i ltZ).out = false) (hfar : ¬ (t.step + 1 < (L.getD i ltZ).step ∨ (L.getD i ltZ).step % 2 = t.step % 2)) (hkl : t.kept.length ≤ t.cap) (pub dn : Nat) :
    (keyR t (letQ (L.getD i ltZ).step (L.getD i ltZ).count (L.getD i ltZ).prev pub) dn).1 = 0 ∧ LateQ s (capS (keyR t (letQ (L.getD i ltZ).step (L.getD i ltZ).count (L.getD i ltZ).prev pub) dn).2.2) (L.set i { L.getD i ltZ with out := true }) m := by
  have hle := h.le
  obtain ⟨k0, rfl⟩ : ∃ k0, m = k0 + 1 := ⟨m - 1, by omega⟩
  obtain ⟨t1, t2, t3⟩ := h.top1 k0 rfl
  have hik : i < k0 := by
    rcases Nat.lt_or_ge i k0 with q | q
    · exact q
    · obtain rfl : i = k0 := by omega
      rw [ho] at t1; cases t1
  have hmo := chain_mono h.chain i k0 hik (by omega)
  have hmem : ((L.getD i ltZ).step, (L.getD i ltZ).count) ∈ idsL t.kept := by rw [h.kept]; exact late_mem L i _ (by omega) ho
  obtain ⟨e, he⟩ := ids_find hmem
  have hst := late_strike L i (by omega) (k0 + 1) (fun k hk hne => by
    rcases Nat.lt_or_ge k i with q | q
    · have := chain_mono h.chain k i q (by omega); omega
    · have := chain_mono h.chain i k (by omega) (by omega); omega)
  rw [keyQ_old hfar (by omega) (by omega) he]
  refine ⟨rfl, ?_⟩
  rw [capS_id (by show (t.kept.filter _).length ≤ t.cap; exact Nat.le_trans (List.length_filter_le _ _) hkl)]
  refine h.reads i (by omega) hle (fun k hk => ⟨by omega, h.outs k hk⟩) (by omega) (fun k hk => ?_) ?_
  · obtain rfl : k = k0 := by omega
    exact ⟨.inr t1, t2, t3⟩
  · show idsL (t.kept.filter fun e => !isEnt (L.getD i ltZ).step (L.getD i ltZ).count e) = _
    rw [idsL_filter, h.kept]; exact hst
theorem late_due {s t : StM} {L : List LtM} {m : Nat} (h : LateQ s t L m) (i : Nat) (hi : i < L.length) (him : m ≤ i) (hw : WaitQ L i t.skip t.cap) (hfar : ¬ (t.step + 1 < (L.getD i ltZ).step ∨ (L.getD i ltZ).step % 2 = t.step % 2)) (hd : (L.getD i ltZ).step + 1 = t.step) (pub dn : Nat) :
    (keyR t (letQ (L.getD i ltZ).step (L.getD i ltZ).count (L.getD i ltZ).prev pub) dn).1 = 0 ∧ LateQ s (capS (keyR t (letQ (L.getD i ltZ).step (L.getD i ltZ).count (L.getD i ltZ).prev pub) dn).2.2) (L.set i { L.getD i ltZ with out := true }) (i + 1) := by
  obtain ⟨hA, hB⟩ := hw (fun k hk => h.outs k (by omega))
  rw [lateAll_len L i i (Nat.le_refl _)] at hA
  have hlo := h.low i hi
  obtain ⟨k0, rfl⟩ : ∃ k0, m = k0 + 1 := by
    refine ⟨m - 1, ?_⟩
    rcases Nat.eq_zero_or_pos m with q | q
    · have := (h.top0 q).1; omega
    · omega
  obtain ⟨t1, t2, t3⟩ := h.top1 k0 rfl
  have hsm : ∀ k, k0 ≤ k → k ≤ i → (L.getD k ltZ).step = (L.getD i ltZ).step ∧ (L.getD k ltZ).count + 1 = t.got + (k - k0) := by
    intro k k1 k2
    have g1 := chain_ge h.chain k1 (show k < L.length by omega)
    have g2 := chain_ge h.chain k2 hi
    have g3 := chain_same h.chain k0 (k - k0) (by omega) (by rw [show k0 + (k - k0) = k by omega]; omega)
    rw [show k0 + (k - k0) = k by omega] at g3
    omega
  have hci := (hsm i (by omega) (Nat.le_refl _)).2
  have hmore := late_more L (k0 + 1) (L.getD i ltZ).step t.got (i - (k0 + 1)) (fun k k1 k2 => ⟨h.outs k k1, (hsm k (by omega) (by omega)).1, by have := (hsm k (by omega) (by omega)).2; omega⟩)
  rw [show k0 + 1 + (i - (k0 + 1)) = i by omega] at hmore
  have hnb : ¬ skipBad t (L.getD i ltZ).count := by
    rintro ⟨q1, q2⟩
    have hb := hB (k0 + 1) (by omega) (h.outs _ (Nat.le_refl _))
    rw [(hsm (k0 + 1) (by omega) him).1, lateOf_len L i _ i (Nat.le_refl _), hmore, stepI_append, stepI_span] at hb
    rw [ofL_ids, h.kept, show t.step - 1 = (L.getD i ltZ).step by omega] at q2
    omega
  have hids : idsL (dueS t (L.getD i ltZ).count).kept = lateI L i := by
    show idsL (t.kept ++ spanL t.inn (t.step - 1) t.got ((L.getD i ltZ).count - t.got)) = _
    rw [idsL_append, idsL_span, h.kept, hmore, show t.step - 1 = (L.getD i ltZ).step by omega, show (L.getD i ltZ).count - t.got = i - (k0 + 1) by omega]
  rw [keyQ_due hfar (by omega) (by omega) hnb]
  refine ⟨rfl, ?_⟩
  rw [capS_id (by rw [← idsL_length, hids]; exact hA)]
  refine h.reads i hi hi (fun k hk => ⟨by omega, h.outs k (by omega)⟩) (by omega) (fun k hk => ?_) ?_
  · obtain rfl : k = i := by omega
    exact ⟨.inl rfl, hd.symm, rfl⟩
  · rw [hids, late_new L i hi]
theorem late_turn {s t : StM} {L : List LtM} {m : Nat} (h : LateQ s t L m) (i : Nat) (hi : i < L.length) (him : m ≤ i) (hw : WaitQ L i t.skip t.cap) (hfar : ¬ (t.step + 1 < (L.getD i ltZ).step ∨ (L.getD i ltZ).step % 2 = t.step % 2)) (hd : (L.getD i ltZ).step = t.step + 1) (pub dn : Nat) :
    (keyR t (letQ (L.getD i ltZ).step (L.getD i ltZ).count (L.getD i ltZ).prev pub) dn).1 = 0 ∧ LateQ s (capS (keyR t (letQ (L.getD i ltZ).step (L.getD i ltZ).count (L.getD i ltZ).prev pub) dn).2.2) (L.set i { L.getD i ltZ with out := true }) (i + 1) := by
  obtain ⟨hA, hB⟩ := hw (fun k hk => h.outs k (by omega))
  rw [lateAll_len L i i (Nat.le_refl _)] at hA
  obtain ⟨b, b1, b2, b3, b4, b5⟩ : ∃ b, m ≤ b ∧ b ≤ i ∧ (∀ k, m ≤ k → k < b → (L.getD k ltZ).step = t.step - 1 ∧ (L.getD k ltZ).count = t.got + (k - m)) ∧ (∀ k, b ≤ k → k ≤ i → (L.getD k ltZ).step = (L.getD i ltZ).step ∧ (L.getD k ltZ).count = 0 + (k - b)) ∧ ((t.step < 2 ∧ b = m) ∨ (2 ≤ t.step ∧ (L.getD i ltZ).prev = t.got + (b - m))) := by
    rcases Nat.eq_zero_or_pos m with q | q
    · obtain ⟨z1, z2⟩ := h.top0 q
      obtain ⟨f1, f2⟩ := h.first (by omega)
      have l0 := h.low 0 (by omega)
      refine ⟨m, Nat.le_refl _, him, fun k k1 k2 => by omega, fun k k1 k2 => ?_, .inl ⟨by omega, rfl⟩⟩
      subst q
      have g1 := chain_ge h.chain (Nat.zero_le k) (show k < L.length by omega)
      have g2 := chain_ge h.chain k2 hi
      have p1 := chain_par h.chain 0 k (by omega)
      have p2 := chain_par h.chain 0 i (by omega)
      rw [Nat.zero_add] at p1 p2
      have hk : (L.getD k ltZ).step = (L.getD 0 ltZ).step := by omega
      have hs := chain_same h.chain 0 k (by omega) (by rw [Nat.zero_add]; exact hk)
      rw [Nat.zero_add] at hs
      exact ⟨by omega, by omega⟩
    · obtain ⟨k0, rfl⟩ : ∃ k0, m = k0 + 1 := ⟨m - 1, by omega⟩
      obtain ⟨t1, t2, t3⟩ := h.top1 k0 rfl
      have l0 := h.low k0 (by omega)
      have hki : k0 + (i - k0) = i := by omega
      obtain ⟨b, c1, c2, c3, c4, c5, c6⟩ := chain_turn h.chain k0 (i - k0) (by omega) (by rw [hki]; omega)
      rw [hki] at c2 c4
      have e1 : ∀ k, k0 ≤ k → k < b → (L.getD k ltZ).count = (L.getD k0 ltZ).count + (k - k0) := fun k k1 k2 => by
        have := chain_same h.chain k0 (k - k0) (by omega) (by rw [show k0 + (k - k0) = k by omega]; exact c3 k k1 k2)
        rw [show k0 + (k - k0) = k by omega] at this
        exact this.1
      have e2 : ∀ k, b ≤ k → k ≤ i → (L.getD k ltZ).count = 0 + (k - b) ∧ (L.getD k ltZ).prev = (L.getD b ltZ).prev := fun k k1 k2 => by
        have := chain_same h.chain b (k - b) (by omega) (by rw [show b + (k - b) = k by omega, c4 k k1 k2, c4 b (Nat.le_refl _) c2])
        rw [show b + (k - b) = k by omega, c5] at this
        exact this
      refine ⟨b, by omega, c2, fun k k1 k2 => ⟨by have := c3 k (by omega) k2; omega, by have := e1 k (by omega) k2; omega⟩, fun k k1 k2 => ⟨by rw [c4 k k1 k2]; omega, (e2 k k1 k2).1⟩, .inr ⟨by omega, ?_⟩⟩
      rw [(e2 i c2 (Nat.le_refl _)).2, c6, e1 (b - 1) (by omega) (by omega)]
      omega
  have m1 := late_more L m (t.step - 1) t.got (b - m) (fun k k1 k2 => ⟨h.outs k k1, b3 k k1 (by omega)⟩)
  rw [show m + (b - m) = b by omega] at m1
  have m2 := late_more L b (L.getD i ltZ).step 0 (i - b) (fun k k1 k2 => ⟨h.outs k (by omega), b4 k k1 (by omega)⟩)
  rw [show b + (i - b) = i by omega] at m2
  have hci := (b4 i b2 (Nat.le_refl _)).2
  have hend : idsL (endS t (L.getD i ltZ).prev).kept = lateI L b := by
    rcases b5 with ⟨q1, q2⟩ | ⟨q1, q2⟩
    · rw [endS, if_neg (by omega), q2]; exact h.kept
    · rw [endS, if_pos q1]
      show idsL (t.kept ++ spanL t.inn (t.step - 1) t.got ((L.getD i ltZ).prev - t.got)) = _
      rw [idsL_append, idsL_span, h.kept, m1, show (L.getD i ltZ).prev - t.got = b - m by omega]
  have hes := (endS_step t (L.getD i ltZ).prev)
  have hn1 : ¬ (2 ≤ t.step ∧ skipBad t (L.getD i ltZ).prev) := by
    rintro ⟨q0, q1, q2⟩
    have hp : (L.getD i ltZ).prev = t.got + (b - m) := by rcases b5 with ⟨z1, _⟩ | ⟨_, z⟩; omega; exact z
    have hb := hB m (by omega) (h.outs m (Nat.le_refl _))
    rw [(b3 m (Nat.le_refl _) (by omega)).1, lateOf_len L i _ i (Nat.le_refl _), m2, stepI_append, m1, stepI_append, stepI_span] at hb
    rw [ofL_ids, h.kept] at q2
    omega
  have hn2 : ¬ skipBad (turnS (endS t (L.getD i ltZ).prev) (L.getD i ltZ).step pub dn) (L.getD i ltZ).count := by
    rintro ⟨q1, q2⟩
    have q1' : 0 < (L.getD i ltZ).count := q1; have q2' : (endS t (L.getD i ltZ).prev).skip < ofL (endS t (L.getD i ltZ).prev).kept ((L.getD i ltZ).step + 1 - 1) + ((L.getD i ltZ).count - 0) := q2
    have hb := hB b (by omega) (h.outs b b1)
    rw [(b4 b (Nat.le_refl _) b2).1, lateOf_len L i _ i (Nat.le_refl _), m2, stepI_append, stepI_span] at hb
    rw [ofL_ids, hend, Nat.add_sub_cancel, hes.2.1] at q2'
    omega
  have hids : idsL (dueS (turnS (endS t (L.getD i ltZ).prev) (L.getD i ltZ).step pub dn) (L.getD i ltZ).count).kept = lateI L i := by
    show idsL ((endS t (L.getD i ltZ).prev).kept ++ spanL _ ((L.getD i ltZ).step + 1 - 1) 0 ((L.getD i ltZ).count - 0)) = _
    rw [idsL_append, idsL_span, hend, m2, Nat.add_sub_cancel, show (L.getD i ltZ).count - 0 = i - b by omega]
  rw [keyQ_turn hfar hd hn1 hn2]
  refine ⟨rfl, ?_⟩
  rw [capS_id (by rw [← idsL_length, hids]; exact Nat.le_trans hA (Nat.le_of_eq hes.2.2.1.symm))]
  refine h.reads i hi hi (fun k hk => ⟨by omega, h.outs k (by omega)⟩) (by omega) (fun k hk => ?_) ?_
  · obtain rfl : k = i := by omega
    exact ⟨.inl rfl, rfl, rfl⟩
  · rw [hids, late_new L i hi]
theorem take_late {s t : StM} {L : List LtM} {m : Nat} (h : LateQ s t L m) (i : Nat) (hi : i < L.length) (ho : (L.getD i ltZ).out = false) (hw : WaitQ L i t.skip t.cap) (hfar : ¬ (t.step + 1 < (L.getD i ltZ).step ∨ (L.getD i ltZ).step % 2 = t.step % 2)) (hkl : t.kept.length ≤ t.cap) (pub dn : Nat) :
    (keyR t (letQ (L.getD i ltZ).step (L.getD i ltZ).count (L.getD i ltZ).prev pub) dn).1 = 0 ∧ ∃ m', LateQ s (capS (keyR t (letQ (L.getD i ltZ).step (L.getD i ltZ).count (L.getD i ltZ).prev pub) dn).2.2) (L.set i { L.getD i ltZ with out := true }) m' := by
  rcases Nat.lt_or_ge i m with q | q
  · obtain ⟨a, b⟩ := late_old h i q ho hfar hkl pub dn; exact ⟨a, m, b⟩
  · have hlo := h.low i hi
    have hstep : (L.getD i ltZ).step + 1 = t.step ∨ (L.getD i ltZ).step = t.step + 1 := by
      rcases Nat.eq_zero_or_pos m with z | z
      · have := (h.top0 z).1; omega
      · obtain ⟨k0, rfl⟩ : ∃ k0, m = k0 + 1 := ⟨m - 1, by omega⟩
        have t2 := (h.top1 k0 rfl).2.1
        have g := chain_ge h.chain (show k0 ≤ i by omega) hi
        omega
    rcases hstep with z | z
    · obtain ⟨a, b⟩ := late_due h i hi q hw hfar z pub dn; exact ⟨a, i + 1, b⟩
    · obtain ⟨a, b⟩ := late_turn h i hi q hw hfar z pub dn; exact ⟨a, i + 1, b⟩
theorem keyR_prev {s : StM} {l : LetM} {dn : Nat} (h : (keyR s l dn).1 = 0) : (keyR s l dn).2.2.prev = if l.step = s.step + 1 then s.sent else s.prev := by
  rw [keyR] at h ⊢
  by_cases hx : s.step + 1 < l.step ∨ l.step % 2 = s.step % 2
  · rw [if_pos hx] at h; simp at h
  · rw [if_neg hx] at h ⊢
    by_cases hl : l.step = s.step + 1
    · rw [if_pos hl] at h ⊢
      rw [if_pos hl]
      rw [turnR] at h ⊢
      by_cases h2 : 2 ≤ s.step ∧ skipBad s l.prev
      · rw [if_pos h2] at h; simp at h
      · rw [if_neg h2] at h ⊢
        rw [dueR] at h ⊢
        by_cases h3 : skipBad (turnS (endS s l.prev) l.step l.pub dn) l.count
        · rw [if_pos h3] at h; simp at h
        · rw [if_neg h3]
          show (endS s l.prev).sent = s.sent
          rw [endS]; split <;> rfl
    · rw [if_neg hl] at h ⊢
      rw [if_neg hl]
      by_cases h2 : l.step + 1 = s.step ∧ s.got ≤ l.count
      · rw [if_pos h2] at h ⊢
        rw [dueR] at h ⊢
        by_cases h3 : skipBad s l.count
        · rw [if_pos h3] at h; simp at h
        · rw [if_neg h3]; rfl
      · rw [if_neg h2] at h ⊢
        rw [oldR] at h ⊢
        cases hf : s.kept.find? (isEnt l.step l.count) with
        | none => rfl
        | some e => rfl
theorem getD_of_mem {L : List LtM} {x : LtM} (h : x ∈ L) : ∃ k, k < L.length ∧ L.getD k ltZ = x := by
  obtain ⟨k, hk, e⟩ := List.getElem_of_mem h
  exact ⟨k, hk, by rw [List.getD_eq_getElem?_getD, List.getElem?_eq_getElem hk, ← e]; rfl⟩
theorem LateQ.writer {t t' s : StM} {L : List LtM} {m n : Nat} (h : LateQ t s L m) (hn : n ≤ s.step) (h1 : t'.step = if n = t.step + 1 then n + 1 else t.step) (h2 : t'.sent = if n = t.step + 1 then 0 else t.sent) (h3 : t'.prev = if n = t.step + 1 then t.sent else t.prev) : LateQ t' s L m := by
  by_cases q : n = t.step + 1
  · rw [if_pos q] at h1 h2 h3
    refine ⟨h.le, h.chain, h.first, fun k hk => ⟨(h.low k hk).1, by have := (h.low k hk).2; omega⟩, fun h0 => ⟨h2, ?_⟩, fun k hk => ?_, ?_, h.outs, h.top0, h.top1, h.kept⟩
    · have := (h.top0 (by have := h.le; omega)).1; omega
    · rcases h.last1 k hk with ⟨a, b, c⟩ | ⟨a, b, c⟩
      · right; omega
      · exfalso
        have hle := h.le
        rcases Nat.eq_zero_or_pos m with z | z
        · have := (h.top0 z).1; omega
        · obtain ⟨k0, rfl⟩ : ∃ k0, m = k0 + 1 := ⟨m - 1, by omega⟩
          have t2 := (h.top1 k0 rfl).2.1
          have g := chain_ge h.chain (show k0 ≤ k by omega) (by omega)
          omega
    · rw [h2, List.length_eq_zero_iff, List.filter_eq_nil_iff]
      intro x hx z
      obtain ⟨k, hk, e⟩ := getD_of_mem hx
      have := (h.low k hk).2
      rw [e] at this
      have z' : x.step = t'.step := by simpa using z
      omega
  · rw [if_neg q] at h1 h2 h3
    refine ⟨h.le, h.chain, h.first, fun k hk => ⟨(h.low k hk).1, by have := (h.low k hk).2; omega⟩, fun h0 => ?_, fun k hk => ?_, ?_, h.outs, h.top0, h.top1, h.kept⟩
    · rw [h1, h2]; exact h.last0 h0
    · rw [h1, h2, h3]; exact h.last1 k hk
    · rw [h1, h2]; exact h.num
theorem getD_app_lt (L : List LtM) (x : LtM) (k : Nat) (h : k < L.length) : (L ++ [x]).getD k ltZ = L.getD k ltZ := by
  rw [List.getD_eq_getElem?_getD, List.getElem?_append_left h, List.getD_eq_getElem?_getD]
theorem getD_app_at (L : List LtM) (x : LtM) : (L ++ [x]).getD L.length ltZ = x := by
  rw [List.getD_eq_getElem?_getD, List.getElem?_append_right (Nat.le_refl _), Nat.sub_self]; rfl
theorem getD_app_gt (L : List LtM) (x : LtM) (k : Nat) (h : L.length < k) : (L ++ [x]).getD k ltZ = ltZ := by
  rw [List.getD_eq_getElem?_getD, List.getElem?_eq_none (by rw [List.length_append]; simp; omega)]; rfl
theorem LateQ.write {s t : StM} {L : List LtM} {m : Nat} (h : LateQ s t L m) (h1 : 1 ≤ s.step) (tx : List UInt8) : LateQ (sendS s) t (L ++ [newLt s tx]) m := by
  have hle := h.le
  have hl : (L ++ [newLt s tx]).length = L.length + 1 := by rw [List.length_append]; rfl
  have hn1 : (newLt s tx).step = s.step := rfl; have hn2 : (newLt s tx).count = s.sent := rfl; have hn3 : (newLt s tx).prev = s.prev := rfl; have hs1 : (sendS s).step = s.step := rfl; have hs2 : (sendS s).sent = s.sent + 1 := rfl; have hs3 : (sendS s).prev = s.prev := rfl
  refine ⟨by omega, fun k hk => ?_, fun h0 => ?_, fun k hk => ?_, fun h0 => by omega, fun k hk => ?_, ?_, fun k hk => ?_, h.top0, fun k hk => ?_, ?_⟩
  · rw [hl] at hk
    rcases Nat.lt_or_ge (k + 1) L.length with q | q
    · rw [getD_app_lt _ _ _ q, getD_app_lt _ _ _ (show k < L.length by omega)]; exact h.chain k q
    · have hk1 : k + 1 = L.length := by omega
      rw [hk1, getD_app_at, getD_app_lt _ _ _ (show k < L.length by omega), nextQ, hn1, hn2, hn3]
      exact h.last1 k hk1
  · rcases Nat.eq_zero_or_pos L.length with q | q
    · have e : (L ++ [newLt s tx]).getD 0 ltZ = newLt s tx := by have := getD_app_at L (newLt s tx); rw [q] at this; exact this
      rw [e, hn1, hn2]; exact ⟨(h.last0 q).1, (h.last0 q).2⟩
    · rw [getD_app_lt _ _ _ q]; exact h.first q
  · rw [hl] at hk
    rcases Nat.lt_or_ge k L.length with q | q
    · rw [getD_app_lt _ _ _ q]; exact h.low k q
    · obtain rfl : k = L.length := by omega
      rw [getD_app_at, hn1]; exact ⟨h1, Nat.le_refl _⟩
  · rw [hl] at hk
    obtain rfl : k = L.length := by omega
    rw [getD_app_at]; exact .inl ⟨rfl, rfl, rfl⟩
  · rw [List.filter_append, List.length_append, hs1, hs2, h.num, List.filter_cons, if_pos (by rw [hn1]; simp)]; rfl
  · rcases Nat.lt_trichotomy k L.length with q | q | q
    · rw [getD_app_lt _ _ _ q]; exact h.outs k hk
    · rw [q, getD_app_at]; rfl
    · rw [getD_app_gt _ _ _ q]; rfl
  · rw [getD_app_lt _ _ _ (by omega)]; exact h.top1 k hk
  · rw [h.kept]
    exact late_congr _ _ m (fun k hk => by rw [getD_app_lt _ _ _ (by omega)]; exact ⟨rfl, rfl, rfl⟩)
theorem LateQ.reader {s t : StM} {L : List LtM} {m : Nat} (h : LateQ s t L m) : LateQ s (sendS t) L m := ⟨h.le, h.chain, h.first, h.low, h.last0, h.last1, h.num, h.outs, h.top0, h.top1, h.kept⟩
theorem LateQ.come {s t : StM} {L : List LtM} {m : Nat} (h : LateQ s t L m) {v first : Nat} (h1 : first ≤ t.step) (h2 : t.step ≤ 1 → first = t.step) (h3 : first ≤ v) (h4 : ∀ k, k < L.length → (L.getD k ltZ).out = true → (L.getD k ltZ).step + 1 ≤ v) (h5 : v = first ∨ ∃ k, k < L.length ∧ (L.getD k ltZ).out = true ∧ v = (L.getD k ltZ).step + 1) : v = t.step := by
  have hle := h.le
  have hin : ∀ k, (L.getD k ltZ).out = true → k < m := fun k hk => by
    rcases Nat.lt_or_ge k m with q | q
    · exact q
    · rw [h.outs k q] at hk; cases hk
  rcases Nat.eq_zero_or_pos m with z | z
  · have h0 := (h.top0 z).1
    rcases h5 with q | ⟨k, _, q, _⟩
    · rw [q]; exact h2 h0
    · have := hin k q; omega
  · obtain ⟨k0, rfl⟩ : ∃ k0, m = k0 + 1 := ⟨m - 1, by omega⟩
    obtain ⟨t1, t2, _⟩ := h.top1 k0 rfl
    have g := h4 k0 (by omega) t1
    rcases h5 with q | ⟨k, hk, q, e⟩
    · omega
    · have := hin k q
      have g2 := chain_ge h.chain (show k ≤ k0 by omega) (by omega)
      omega
structure ArrI (r : List UInt8) (a : Nat → Nat) (s t : StM) (Ls Lt : List LtM) : Prop where
  keep : KeepI r a s t Ls Lt
  ls : ∃ m, LateQ s t Ls m
  lt : ∃ m, LateQ t s Lt m
theorem ArrI.symm {r : List UInt8} {a : Nat → Nat} {s t : StM} {Ls Lt : List LtM} (h : ArrI r a s t Ls Lt) : ArrI r a t s Lt Ls := ⟨h.keep.symm, h.lt, h.ls⟩
theorem ArrI.wrote {r : List UInt8} {a : Nat → Nat} {s t : StM} {Ls Lt : List LtM} (h : ArrI r a s t Ls Lt) (h0 : s.step ≠ 0) (h50 : s.sent < 50) (h30 : s.step < 30) (hl : LawQ (sendS s)) (tx : List UInt8) (ht : tx.length ≤ 40) : ArrI r a (sendS s) t (Ls ++ [newLt s tx]) Lt := by
  obtain ⟨m, hm⟩ := h.ls; obtain ⟨m2, hm2⟩ := h.lt
  exact ⟨h.keep.wrote h0 h50 h30 hl tx ht, ⟨m, hm.write (by omega) tx⟩, ⟨m2, hm2.reader⟩⟩
theorem ArrI.came {r : List UInt8} {a : Nat → Nat} {s t : StM} {Ls Lt : List LtM} {d : List UInt8} {k : Nat} (h : ArrI r a s t Ls Lt) (hg : GoodD d k) (hd : heldS d = s) (i : Nat) (hi : i < Lt.length) (ho : (Lt.getD i ltZ).out = false) (hw : WaitQ Lt i s.skip s.cap) (draw : Int) (hs : Sec draw) :
    (keyR s (letQ (Lt.getD i ltZ).step (Lt.getD i ltZ).count (Lt.getD i ltZ).prev (pwN 7 (a (Lt.getD i ltZ).step))) draw.toNat).1 = 0 ∧ ArrI r (nextA a s (Lt.getD i ltZ).step draw.toNat) (capS (keyR s (letQ (Lt.getD i ltZ).step (Lt.getD i ltZ).count (Lt.getD i ltZ).prev (pwN 7 (a (Lt.getD i ltZ).step))) draw.toNat).2.2) t Ls (Lt.set i { Lt.getD i ltZ with out := true }) := by
  obtain ⟨m, hm⟩ := h.ls; obtain ⟨m2, hm2⟩ := h.lt
  have hmem : Lt.getD i ltZ ∈ Lt := by rw [List.getD_eq_getElem?_getD, List.getElem?_eq_getElem hi]; exact List.getElem_mem hi
  have hwq := (h.keep.lt.wrote _ hmem).1; have hfar := pair_far h.keep.pair hwq
  have hkl : s.kept.length ≤ s.cap := by rw [← hd]; exact hg.kept
  obtain ⟨k1, m', k2⟩ := take_late hm2 i hi ho hw hfar hkl (pwN 7 (a (Lt.getD i ltZ).step)) draw.toNat; obtain ⟨f1, _, _, _, f5⟩ := keyR_facts k1; have f6 := keyR_prev k1; exact ⟨k1, h.keep.came hg hd i hi draw hs k1, ⟨m, hm.writer (n := (Lt.getD i ltZ).step) hwq.s2 f1 f5 f6⟩, ⟨m', k2⟩⟩
theorem writes_none (P base : Nat) (b0 b1 b2 b3 b4 b5 b6 b7 b8 b9 b10 : Value) (xv : Option Addr) (xn xc : Nat) (L : List LtM) (st : Nat) (t : ByteArray) (w : World) (hP : w.heap[P]? = some (.cells #[b0, b1, b2, b3, b4, b5, b6, b7, b8, b9, b10, .slice xv xn xc] 41)) (hrow : w.ownsRow base 63 7 (.slice xv xn xc) L.length (ltsC L)) (hL : L.length ≤ 100000) (hst : st ≤ 30) (hq : st = 0 ∨ st = 30 ∨ ofStepN L st = 50) :
    Calls Try.prog 8 #[.pointer (some ⟨P, 0, none⟩), .int .i64 st, .string t] w fun e w' => e = .returned (.bool true) ∧ Below w.heap.size w w' := by
  obtain ⟨xa, xb, hxv⟩ := ltForm hrow
  injection hxv with x1 x2 x3
  subst x2; clear x1 x3 xa xb; have HROW := hid hrow; have HQ := hid hq; have k11 : w.cell? ⟨P, 11, none⟩ = some (.slice xv L.length xc) := cell_of_row w _ 11 _ _ _ hP; clear hP hrow hq
  go_enter Try.func8, Try.ntmps8
  go_wp2
  go_loopg [7, 8] 1000000 (fun g n c wr => ∃ j : Nat, n = .int .i64 (ofStepN (L.take j) st : Nat) ∧ c = .int .i64 j ∧ j ≤ L.length ∧ g + j = 1000000 ∧ wr = w)
  case atStart => exact ⟨0, rfl, rfl, Nat.zero_le _, rfl, rfl⟩
  case round =>
    obtain ⟨j, rfl, rfl, hj, hgj, rfl⟩ := hrel; have hle := ofStepN_le L st j
    by_cases hlt : j < L.length
    · obtain ⟨g, cap, hv, hgb, _, _, c2', _, _⟩ := ltRow HROW.out hlt
      injection hv with v1 v2 v3
      subst v1 v3
      have hjl : (j : Int) < (L.length : Int) := by omega
      have hj0 : (0 : Int) ≤ (j : Int) := by omega
      have HN := ofStepN_push L st j hlt
      by_cases he : (L.getD j ltZ).step = st
      · rw [if_pos he] at HN
        rw [he] at c2'
        have HN2 : Hid (ofStepN (L.take (j + 1)) st = ofStepN (L.take j) st + 1) := HN
        generalize ofStepN (L.take j) st = nn at *
        clear HN he; go_wp2
        go_roundg (gk - 1)
        case measure => omega
        case rel => exact ⟨j + 1, by rw [HN2.out]; simp, by simp, by omega, by omega, rfl⟩
      · rw [if_neg he] at HN
        have heI : (((L.getD j ltZ).step : Int) == (st : Int)) = false := by rw [beq_eq_false_iff_ne]; omega
        have heI2 : ¬ ((L.getD j ltZ).step : Int) = (st : Int) := by omega
        have HN2 : Hid (ofStepN (L.take (j + 1)) st = ofStepN (L.take j) st) := HN
        generalize ofStepN (L.take j) st = nn at *
        generalize (L.getD j ltZ).step = es at *
        clear HN he; go_wp2
        go_roundg (gk - 1)
        case measure => omega
        case rel => exact ⟨j + 1, by rw [HN2.out], by simp, by omega, by omega, rfl⟩
    · obtain rfl : j = L.length := by omega
      have hjl : ¬ (L.length : Int) < (L.length : Int) := by omega
      rw [List.take_length] at *
      have hall : (((st : Int) == 0) || (((st : Int) == 30) || ((ofStepN L st : Int) == 50))) = true := by
        rcases HQ.out with q | q | q
        · rw [q]; rfl
        · rw [q]; rfl
        · rw [q]; simp
      generalize ofStepN L st = nn at *
      by_cases q0 : st = 0
      · have z0 : ((st : Int) == 0) = true := by rw [beq_iff_eq]; omega
        clear q0; go_wp2; go_ret; exact ⟨rfl, Below.refl _ _⟩
      · have z0 : ((st : Int) == 0) = false := by rw [beq_eq_false_iff_ne]; omega
        by_cases q1 : st = 30
        · have z1 : ((st : Int) == 30) = true := by rw [beq_iff_eq]; omega
          clear q0 q1; go_wp2; go_ret; exact ⟨rfl, Below.refl _ _⟩
        · have z1 : ((st : Int) == 30) = false := by rw [beq_eq_false_iff_ne]; omega
          have z2 : ((nn : Int) == 50) = true := by rw [z0, z1] at hall; simpa using hall
          clear q0 q1; go_wp2; go_ret; exact ⟨rfl, Below.refl _ _⟩
def strip (x : LtM) : LtM := ⟨x.bytes, x.text, x.step, 0, 0, 0, x.out⟩
def stripL (L : List LtM) : List LtM := L.map strip
theorem stripL_length (L : List LtM) : (stripL L).length = L.length := List.length_map _
theorem stripL_getD (L : List LtM) (k : Nat) : (stripL L).getD k ltZ = strip (L.getD k ltZ) := by
  rw [List.getD_eq_getElem?_getD, stripL, List.getElem?_map, List.getD_eq_getElem?_getD]
  cases L[k]? <;> rfl
theorem stripL_push (L : List LtM) (x : LtM) : stripL (L ++ [x]) = stripL L ++ [strip x] := List.map_append
theorem stripL_set : ∀ (L : List LtM) (i : Nat), stripL (L.set i { L.getD i ltZ with out := true }) = (stripL L).set i { (stripL L).getD i ltZ with out := true }
  | [], i => rfl
  | x :: l, 0 => rfl
  | x :: l, i + 1 => by
    have := stripL_set l i
    show strip x :: stripL (l.set i { l.getD i ltZ with out := true }) = strip x :: (stripL l).set i { (stripL l).getD i ltZ with out := true }
    rw [this]
theorem stripL_num (L : List LtM) (st : Nat) : ofStepN (stripL L) st = (L.filter fun x => x.step == st).length := by
  rw [ofStepN, stripL, List.filter_map, List.length_map]; rfl
theorem stripL_all (L : List LtM) (i : Nat) : ∀ n, lateAll (stripL L) i n = lateAll L i n
  | 0 => rfl
  | n + 1 => by rw [lateAll, lateAll, stripL_all L i n, stripL_getD]; rfl
theorem stripL_of (L : List LtM) (i st : Nat) : ∀ n, lateOf (stripL L) i st n = lateOf L i st n
  | 0 => rfl
  | n + 1 => by rw [lateOf, lateOf, stripL_of L i st n, stripL_getD]; rfl
theorem stripL_wait {L : List LtM} {i sk cp : Nat} (h : WaitQ (stripL L) i sk cp) : WaitQ L i sk cp := by
  intro hz
  obtain ⟨h1, h2⟩ := h (fun k hk => by rw [stripL_getD]; exact hz k hk)
  rw [stripL_all] at h1
  refine ⟨h1, fun k hk ho => ?_⟩
  have := h2 k hk (by rw [stripL_getD]; exact ho)
  rw [stripL_of, stripL_getD] at this
  exact this
structure AAt (w : World) (P base : Nat) (d : List UInt8) (k : Nat) (s : StM) (vl : Value) (L : List LtM) : Prop where
  blk : ∃ b1 b2 b3 b4 b5 b8 b9 b10 : Value, w.heap[P]? = some (.cells #[.string (str d), b1, b2, b3, b4, b5, .int .i64 s.skip, .int .i64 s.cap, b8, b9, b10, vl] 41)
  row : w.ownsRow base 63 7 vl (stripL L).length (ltsC (stripL L))
  good : GoodD d k
  held : heldS d = s
structure TwoA (r : List UInt8) (w : World) (P Q base : Nat) (a : Nat → Nat) (s t : StM) (vls vlt : Value) (Ls Lt : List LtM) (ds dt : List UInt8) (ks kt : Nat) : Prop where
  p : AAt w P base ds ks s vls Ls
  q : AAt w Q base dt kt t vlt Lt
  arr : ArrI r a s t Ls Lt
  rows : ∀ k, vls.ownBlock = some k → vlt.ownBlock ≠ some k
  hP : P < base
  hQ : Q < base
  hPQ : P ≠ Q
  hb : base ≤ w.heap.size
theorem TwoA.symm {r : List UInt8} {w : World} {P Q base : Nat} {a : Nat → Nat} {s t : StM} {vls vlt : Value} {Ls Lt : List LtM} {ds dt : List UInt8} {ks kt : Nat} (h : TwoA r w P Q base a s t vls vlt Ls Lt ds dt ks kt) : TwoA r w Q P base a t s vlt vls Lt Ls dt ds kt ks :=
  ⟨h.q, h.p, h.arr.symm, fun k hk q => h.rows k q hk, h.hQ, h.hP, fun e => h.hPQ e.symm, h.hb⟩
def TwoAX (r : List UInt8) (w : World) (P Q base rho : Nat) : Prop := ∃ a s t vls vlt Ls Lt ds dt ks kt, TwoA r w P Q base a s t vls vlt Ls Lt ds dt ks kt ∧ s.role = rho ∧ t.role = 1 - rho
def TwoAN (r : List UInt8) (w : World) (P Q base rho : Nat) : Prop := ∃ a s t vls vlt Ls Lt ds dt ks kt, TwoA r w P Q base a s t vls vlt Ls Lt ds dt ks kt ∧ s.role = rho ∧ t.role = 1 - rho ∧ 0 < Ls.length
def TwoAB (r : List UInt8) (w : World) (P Q base : Nat) : Prop := ∃ a s t vls vlt Ls Lt ds dt ks kt, TwoA r w P Q base a s t vls vlt Ls Lt ds dt ks kt ∧ s.role = 0 ∧ t.role = 1 ∧ s.step = 1 ∧ s.sent = 0
def ASet (P Q base : Nat) : Nat → Prop := fun b => b = P ∨ b = Q ∨ base ≤ b
theorem aat_lt {w : World} {P base : Nat} {d : List UInt8} {k : Nat} {s : StM} {vl : Value} {L : List LtM} (h : AAt w P base d k s vl L) : P < w.heap.size := by
  obtain ⟨b1, b2, b3, b4, b5, b8, b9, b10, hb⟩ := h.blk
  rcases Nat.lt_or_ge P w.heap.size with q | q
  · exact q
  · rw [Array.getElem?_eq_none (by exact q)] at hb; cases hb
theorem AAt.only {S : Nat → Prop} {w w' : World} {P base : Nat} {d : List UInt8} {k : Nat} {s : StM} {vl : Value} {L : List LtM} (h : AAt w P base d k s vl L) (ho : Only S w w') (h1 : ¬ S P) (h3 : ∀ b, vl.ownBlock = some b → ¬ S b) : AAt w' P base d k s vl L := by
  have hl := aat_lt h; obtain ⟨b1, b2, b3, b4, b5, b8, b9, b10, hb⟩ := h.blk; exact ⟨⟨b1, b2, b3, b4, b5, b8, b9, b10, (ho.block P hl h1).trans hb⟩, ho.own h.row h3, h.good, h.held⟩
theorem TwoA.next {r : List UInt8} {w w' : World} {P Q base : Nat} {a : Nat → Nat} {s t : StM} {vls vlt : Value} {Ls Lt : List LtM} {ds dt : List UInt8} {ks kt : Nat} (h : TwoA r w P Q base a s t vls vlt Ls Lt ds dt ks kt) (hb : Below w.heap.size w w') : TwoA r w' P Q base a s t vls vlt Ls Lt ds dt ks kt :=
  ⟨h.p.only (S := fun _ => False) (Only.of_below hb) (fun q => q) (fun _ _ q => q), h.q.only (S := fun _ => False) (Only.of_below hb) (fun q => q) (fun _ _ q => q), h.arr, h.rows, h.hP, h.hQ, h.hPQ, Nat.le_trans h.hb hb.size⟩
theorem TwoAX.next {r : List UInt8} {w w' : World} {P Q base rho : Nat} (h : TwoAX r w P Q base rho) (hb : Below w.heap.size w w') : TwoAX r w' P Q base rho := by
  obtain ⟨a, s, t, vls, vlt, Ls, Lt, ds, dt, ks, kt, h, h2⟩ := h; exact ⟨a, s, t, vls, vlt, Ls, Lt, ds, dt, ks, kt, h.next hb, h2⟩
theorem TwoAX.symm {r : List UInt8} {w : World} {P Q base rho rho' : Nat} (h : TwoAX r w P Q base rho) (hr : rho ≤ 1) (hr2 : rho' = 1 - rho) : TwoAX r w Q P base rho' := by
  obtain ⟨a, s, t, vls, vlt, Ls, Lt, ds, dt, ks, kt, h, h2, h3⟩ := h
  exact ⟨a, t, s, vlt, vls, Lt, Ls, dt, ds, kt, ks, h.symm, by rw [hr2]; exact h3, by omega⟩
theorem send_zero {d : List UInt8} {k : Nat} (h : GoodD d k) (t : List UInt8) (ht : t.length ≤ 40) (h0 : (heldS d).step ≠ 0) (h1 : (heldS d).sent < 50) (h2 : (heldS d).step < 30) : sendErr d t = 0 := by
  rw [sendErr, if_pos (good_open h), if_neg (by omega), if_neg h0, if_neg (by omega)]
theorem awrites {r : List UInt8} {w : World} {P Q base rho : Nat} {a : Nat → Nat} {s t : StM} {vls vlt : Value} {Ls Lt : List LtM} {ds dt : List UInt8} {ks kt : Nat} (h : TwoA r w P Q base a s t vls vlt Ls Lt ds dt ks kt) (hr : s.role = rho) (hr2 : t.role = 1 - rho) (tx : ByteArray) (ht : tx.size ≤ maxLen) :
    Calls Try.prog 8 #[.pointer (some ⟨P, 0, none⟩), .int .i64 s.step, .string tx] w fun e w' => e = .returned (.bool true) ∧ TwoAX r w' P Q base rho ∧ Only (fun b => b = P ∨ vls.ownBlock = some b) w w' ∧ (s.step ≠ 0 → s.step < 30 → s.sent < 50 → TwoAN r w' P Q base rho) := by
  obtain ⟨ms, hms⟩ := h.arr.ls; obtain ⟨xv, xc, hvl⟩ := ltForm h.p.row; subst hvl; obtain ⟨b1, b2, b3, b4, b5, b8, b9, b10, hblk⟩ := h.p.blk
  have hL : (stripL Ls).length ≤ 100000 := by rw [stripL_length]; exact Nat.le_trans h.arr.keep.len_le (by omega)
  have hlaw := h.arr.keep.pair.ls; have h30 := hlaw.step; have h50 := hlaw.sent
  have hnum : ofStepN (stripL Ls) s.step = s.sent := by rw [stripL_num]; exact hms.num
  by_cases hn : s.step = 0 ∨ s.step = 30 ∨ ofStepN (stripL Ls) s.step = 50
  · refine (writes_none P base _ b1 b2 b3 b4 b5 _ _ b8 b9 b10 xv _ xc (stripL Ls) s.step tx w hblk h.p.row hL h30 hn).mono ?_
    rintro e w' ⟨he, hb⟩
    exact ⟨he, ⟨a, s, t, _, vlt, Ls, Lt, ds, dt, ks, kt, h.next hb, hr, hr2⟩, Only.of_below hb, fun z1 z2 z3 => by rcases hn with q | q | q; exact absurd q z1; omega; omega⟩
  · have hg : GoodD (str ds).data.toList ks := by rw [str_toList]; exact h.p.good
    have l40 : (tx.data.toList.take 40).length ≤ 40 := by rw [List.length_take]; omega
    have q0 : s.step ≠ 0 := fun q => hn (.inl q)
    have q1 : s.step < 30 := by rcases Nat.lt_or_ge s.step 30 with q | q; exact q; exact absurd (.inr (.inl (by omega))) hn
    have q2 : s.sent < 50 := by rcases Nat.lt_or_ge s.sent 50 with q | q; exact q; exact absurd (.inr (.inr (by omega))) hn
    have herr : sendErr ds (tx.data.toList.take 40) = 0 := send_zero h.p.good _ l40 (by rw [h.p.held]; exact q0) (by rw [h.p.held]; exact q2) (by rw [h.p.held]; exact q1)
    obtain ⟨g1, g2⟩ := send_good h.p.good _ herr
    rw [h.p.held] at g2
    have hl2 : LawQ (sendS s) := by rw [← g2]; exact (good_lawQ g1).1
    have hlr : ∀ k, (Value.slice xv (stripL Ls).length xc).ownBlock = some k → base ≤ k ∧ k < w.heap.size := fun k hk => h.p.row.lt k hk
    have hlq : ∀ k, vlt.ownBlock = some k → base ≤ k ∧ k < w.heap.size := fun k hk => h.q.row.lt k hk
    refine (writes_full P base (str ds) b1 b2 b3 b4 b5 _ _ b8 b9 b10 xv _ xc (stripL Ls) s.step tx ks w hblk h.p.row h.hP h.hb hL ht hg (by omega) q0 (by rw [hnum]; exact q2) (by rw [str_toList]; exact herr)).mono ?_
    rintro e w' ⟨he, yv, yn, yc, c1, c2, c4, c5⟩
    rw [str_toList] at c1 c2
    have hnew : stripL Ls ++ [(⟨letL (heldS ds) (tx.data.toList.take 40), tx.data.toList.take 40, s.step, 0, 0, 0, false⟩ : LtM)] = stripL (Ls ++ [newLt s (tx.data.toList.take 40)]) := by rw [stripL_push, h.p.held]; rfl
    rw [hnew] at c2
    have hT : TwoA r w' P Q base a (sendS s) t (.slice yv yn yc) vlt (Ls ++ [newLt s (tx.data.toList.take 40)]) Lt (sendTo ds (tx.data.toList.take 40)) dt ks kt := by
      refine ⟨⟨⟨b1, b2, b3, b4, b5, b8, b9, b10, c1⟩, c2, g1, g2⟩, h.q.only c4 (fun q => ?_) (fun b hb q => ?_), h.arr.wrote q0 q2 q1 hl2 _ l40, fun k hk q => ?_, h.hP, h.hQ, h.hPQ, Nat.le_trans h.hb c4.size⟩
      · rcases q with q | q
        · exact h.hPQ q.symm
        · have := (hlr _ q).1; have := h.hQ; omega
      · rcases q with q | q
        · have := (hlq _ hb).1; have := h.hP; omega
        · exact h.rows _ q hb
      · rcases c5 k hk with z | z
        · exact h.rows k z q
        · have := (hlq k q).2; omega
    exact ⟨he, ⟨_, _, _, _, _, _, _, _, _, _, _, hT, hr, hr2⟩, c4, fun _ _ _ => ⟨_, _, _, _, _, _, _, _, _, _, _, hT, hr, hr2, by rw [List.length_append]; exact Nat.succ_pos _⟩⟩
theorem aarrives {r : List UInt8} {w : World} {P Q base rho : Nat} {a : Nat → Nat} {s t : StM} {vls vlt : Value} {Ls Lt : List LtM} {ds dt : List UInt8} {ks kt : Nat} (h : TwoA r w P Q base a s t vls vlt Ls Lt ds dt ks kt) (hr : s.role = rho) (hr2 : t.role = 1 - rho) (i : Nat) (hi : i < Lt.length) (hw : WaitQ Lt i s.skip s.cap) (draw : Int) (hs : Sec draw) :
    Calls Try.prog 9 #[.pointer (some ⟨P, 0, none⟩), .pointer (some ⟨Q, 0, none⟩), .int .i64 i, .int .i64 draw] w fun e w' => e = .returned (.bool true) ∧ TwoAX r w' P Q base rho ∧ Only (fun b => b = P ∨ vlt.ownBlock = some b) w w' := by
  obtain ⟨xv, xc, hvl⟩ := ltForm h.q.row; subst hvl; obtain ⟨b1, b2, b3, b4, b5, b8, b9, b10, hblk⟩ := h.p.blk; obtain ⟨e1, e2, e3, e4, e5, e8, e9, e10, hbq⟩ := h.q.blk
  have hL : (stripL Lt).length ≤ 100000 := by rw [stripL_length]; exact Nat.le_trans h.arr.keep.symm.len_le (by omega)
  have hg : GoodD (str ds).data.toList ks := by rw [str_toList]; exact h.p.good
  have hm : Lt.getD i ltZ ∈ Lt := by rw [List.getD_eq_getElem?_getD, List.getElem?_eq_getElem hi]; exact List.getElem_mem hi
  obtain ⟨wq, wsec⟩ := h.arr.keep.lt.wrote _ hm
  have hi2 : i < (stripL Lt).length := by rw [stripL_length]; exact hi
  have hgd := stripL_getD Lt i
  have hbs : ((stripL Lt).getD i ltZ).bytes.length ≤ 1000 := by rw [hgd]; show (Lt.getD i ltZ).bytes.length ≤ 1000; rw [wq.bytes, letB_length]; have := wq.txt; omega
  have hlr : ∀ k, vls.ownBlock = some k → base ≤ k ∧ k < w.heap.size := fun k hk => h.p.row.lt k hk
  have hlq : ∀ k, (Value.slice xv (stripL Lt).length xc).ownBlock = some k → base ≤ k ∧ k < w.heap.size := fun k hk => h.q.row.lt k hk
  cases ho : (Lt.getD i ltZ).out with
  | true =>
    have hE := h.arr.keep.out _ hm ho (pwN 7 (a (Lt.getD i ltZ).step)) draw.toNat
    have herr := pair_err h.p.good h.p.held wq draw 16 hs hE (by decide)
    refine (arrives_gone P Q base (str ds) (str dt) b1 b2 b3 b4 b5 _ _ b8 b9 b10 e1 e2 e3 e4 e5 _ _ e8 e9 e10 vls xv _ xc (stripL Lt) i draw ks w hblk hbq h.q.row h.hP h.hQ h.hPQ h.hb hL hi2 hbs hg (by rw [hgd]; exact ho) (by rw [str_toList, hgd]; exact herr)).mono ?_
    rintro e w' ⟨he, hb⟩
    exact ⟨he, ⟨a, s, t, vls, _, Ls, Lt, ds, dt, ks, kt, h.next hb, hr, hr2⟩, Only.of_below hb⟩
  | false =>
    obtain ⟨k1, k2⟩ := h.arr.came h.p.good h.p.held i hi ho hw draw hs; obtain ⟨r1, r2, r3, r4, r5, r6⟩ := pair_ok h.arr.keep.pair h.p.good h.p.held wq draw hs k1; obtain ⟨f1, f2, f3, f4, f5⟩ := keyR_facts k1
    refine (arrives_ok P Q base (str ds) (str dt) b1 b2 b3 b4 b5 _ _ b8 b9 b10 e1 e2 e3 e4 e5 _ _ e8 e9 e10 vls xv _ xc (stripL Lt) i draw ks w hblk hbq h.q.row h.hP h.hQ h.hPQ h.hb hL hi2 hbs hg (by rw [hgd]; exact ho) hs (by rw [str_toList, hgd]; exact r1) (by rw [str_toList, hgd]; exact r2)).mono ?_
    rintro e w' ⟨he, c1, c2, c3, c4⟩
    rw [str_toList, hgd] at c1
    rw [← stripL_set] at c3
    have c1' : w'.heap[P]? = some (.cells #[.string (str (recvTo ds (Lt.getD i ltZ).bytes draw)), b1, b2, b3, b4, b5, .int .i64 ((capS (keyR s (letQ (Lt.getD i ltZ).step (Lt.getD i ltZ).count (Lt.getD i ltZ).prev (pwN 7 (a (Lt.getD i ltZ).step))) draw.toNat).2.2).skip : Int), .int .i64 ((capS (keyR s (letQ (Lt.getD i ltZ).step (Lt.getD i ltZ).count (Lt.getD i ltZ).prev (pwN 7 (a (Lt.getD i ltZ).step))) draw.toNat).2.2).cap : Int), b8, b9, b10, vls] 41) := by
      rw [show (capS (keyR s (letQ (Lt.getD i ltZ).step (Lt.getD i ltZ).count (Lt.getD i ltZ).prev (pwN 7 (a (Lt.getD i ltZ).step))) draw.toNat).2.2).skip = s.skip from f3, show (capS (keyR s (letQ (Lt.getD i ltZ).step (Lt.getD i ltZ).count (Lt.getD i ltZ).prev (pwN 7 (a (Lt.getD i ltZ).step))) draw.toNat).2.2).cap = s.cap from f4]
      exact c1
    refine ⟨he, ⟨_, _, t, vls, _, Ls, _, _, dt, ks, kt, ⟨⟨⟨b1, b2, b3, b4, b5, b8, b9, b10, c1'⟩, c4.own h.p.row (fun b hb q => ?_), r4, r3⟩, ⟨⟨e1, e2, e3, e4, e5, e8, e9, e10, c2⟩, c3, h.q.good, h.q.held⟩, k2, h.rows, h.hP, h.hQ, h.hPQ, Nat.le_trans h.hb c4.size⟩, f2.trans hr, hr2⟩, c4⟩
    rcases q with q | q
    · have := (hlr _ hb).1; have := h.hP; omega
    · exact h.rows _ hb q
theorem first_write {r : List UInt8} {w : World} {P Q base : Nat} (h : TwoAB r w P Q base) (tx : ByteArray) (ht : tx.size ≤ maxLen) :
    Calls Try.prog 8 #[.pointer (some ⟨P, 0, none⟩), .int .i64 1, .string tx] w fun e w' => e = .returned (.bool true) ∧ TwoAN r w' P Q base 0 ∧ Only (ASet P Q base) w w' := by
  obtain ⟨a, s, t, vls, vlt, Ls, Lt, ds, dt, ks, kt, h, hr, hr2, h1, h2⟩ := h
  have := awrites (rho := 0) h hr hr2 tx ht
  rw [h1] at this
  refine this.mono ?_
  rintro e w' ⟨he, _, ho, hn⟩
  exact ⟨he, hn (by omega) (by omega) (by omega), ho.mono (fun k _ q => q.elim .inl (fun z => .inr (.inr (h.p.row.lt k z).1)))⟩
theorem ASet.symm {P Q base k : Nat} (h : ASet P Q base k) : ASet Q P base k := by
  rcases h with q | q | q
  · exact .inr (.inl q)
  · exact .inl q
  · exact .inr (.inr q)
theorem first_arrive {r : List UInt8} {w : World} {P Q base : Nat} (h : TwoAN r w P Q base 0) (draw : Int) (hs : Sec draw) :
    Calls Try.prog 9 #[.pointer (some ⟨Q, 0, none⟩), .pointer (some ⟨P, 0, none⟩), .int .i64 0, .int .i64 draw] w fun e w' => e = .returned (.bool true) ∧ TwoAX r w' P Q base 0 ∧ Only (ASet P Q base) w w' := by
  obtain ⟨a, s, t, vls, vlt, Ls, Lt, ds, dt, ks, kt, h, hr, hr2, hl⟩ := h
  refine (aarrives (rho := 1) h.symm hr2 (by rw [hr]) 0 hl (fun _ => ⟨Nat.zero_le _, fun k hk => by omega⟩) draw hs).mono ?_
  rintro e w' ⟨he, hx, ho⟩
  exact ⟨he, hx.symm (by omega) rfl, ho.mono (fun k _ q => q.elim (fun z => .inr (.inl z)) (fun z => .inr (.inr (h.p.row.lt k z).1)))⟩
theorem late_none (s t : StM) (h1 : s.sent = 0) (h2 : s.step ≤ 2) (h3 : t.step ≤ 1) (h4 : t.got = 0) (h5 : t.kept = []) : LateQ s t [] 0 :=
  ⟨Nat.le_refl _, fun k hk => (by cases hk), fun hk => (by cases hk), fun k hk => (by cases hk), fun _ => ⟨h1, h2⟩, fun k hk => (by cases hk), h1.symm, fun k _ => rfl, fun _ => ⟨h3, h4⟩, fun k hk => (by cases hk), by rw [h5]; rfl⟩
theorem begun_arr (u0 u1 u2 u3 u4 u5 u6 : Int) (u7 : ByteArray) (w : World) (h0 : (-9223372036854775808 ≤ u0 ∧ u0 ≤ 9223372036854775807)) (h1 : (-9223372036854775808 ≤ u1 ∧ u1 ≤ 9223372036854775807)) (h2 : (-9223372036854775808 ≤ u2 ∧ u2 ≤ 9223372036854775807)) (h3 : (-9223372036854775808 ≤ u3 ∧ u3 ≤ 9223372036854775807)) (h4 : (-9223372036854775808 ≤ u4 ∧ u4 ≤ 9223372036854775807)) (h5 : (-9223372036854775808 ≤ u5 ∧ u5 ≤ 9223372036854775807)) (h6 : (-9223372036854775808 ≤ u6 ∧ u6 ≤ 9223372036854775807)) (h7 : u7.size ≤ maxLen) :
    Calls Try.prog 7 #[.agg #[.int .i64 u0, .int .i64 u1, .int .i64 u2, .int .i64 u3, .int .i64 u4, .int .i64 u5, .int .i64 u6, .string u7]] w fun e w' => (∃ P Q : Nat, e = .returned (.tuple #[.pointer (some ⟨P, 0, none⟩), .pointer (some ⟨Q, 0, none⟩), .bool true]) ∧ w.heap.size ≤ P ∧ P < Q ∧ Q < w'.heap.size ∧ TwoAB (sizedL u7.data.toList 8) w' P Q (Q + 1)) ∧ Below w.heap.size w w' := by
  obtain ⟨cp0, cp1⟩ := pickN_bd u1 31 (by omega)
  obtain ⟨ca, hca⟩ := Int.eq_ofNat_of_zero_le cp0
  obtain ⟨cq0, cq1⟩ := pickN_bd u3 31 (by omega)
  obtain ⟨cb, hcb⟩ := Int.eq_ofNat_of_zero_le cq0
  obtain ⟨sp0, sp1⟩ := pickN_bd u0 13 (by omega)
  obtain ⟨sq0, sq1⟩ := pickN_bd u2 13 (by omega)
  obtain ⟨ha1, ha2⟩ := creA_ok u0 u1 u2 u3 u4 u5 u6 u7 ca hca; obtain ⟨hb1, hb2⟩ := creB_ok u0 u1 u2 u3 u4 u5 u6 u7 cb hcb; obtain ⟨ka, gA, eA⟩ := madeA_good u0 u4 u5 u6 u7.data.toList ca ha1 ha2; obtain ⟨kb, gB, eB⟩ := madeB_good u2 u5 u6 u7.data.toList cb hb1 hb2; have hs4 := secN_sec u4; have hs5 := secN_sec u5; have n4 : (((secN u4).toNat : Nat) : Int) = secN u4 := sec_nat hs4; have n5 : (((secN u5).toNat : Nat) : Int) = secN u5 := sec_nat hs5
  refine (begun_any u0 u1 u2 u3 u4 u5 u6 u7 ca cb w h0 h1 h2 h3 h4 h5 h6 h7 hca hcb).mono ?_
  rintro e w' ⟨⟨P, Q, he, hPw, hPQ, hQw, hP, hQ⟩, hb⟩
  refine ⟨⟨P, Q, he, hPw, hPQ, hQw, ?_⟩, hb⟩
  generalize creTo (List.replicate (blankK ca u6 * 32) (0 : UInt8)) 0 (pickN u0 13) (ca : Int) (shOut (secN u5) 7) (sizedL u7.data.toList 8) (secN u4) = da at *
  generalize creTo (List.replicate (blankK cb u6 * 32) (0 : UInt8)) 1 (pickN u2 13) (cb : Int) 0 (sizedL u7.data.toList 8) (secN u5) = db at *
  have lA := (good_lawQ gA).1; have lB := (good_lawQ gB).1
  rw [eA] at lA
  rw [eB] at lB
  have hk := keep_new (sizedL u7.data.toList 8) (pickN u0 13).toNat ca (pickN u2 13).toNat cb (secN u5).toNat (secN u4).toNat (by rw [n5]; exact hs5) (by rw [n4]; exact hs4) lA lB
  have qA : newS 0 (pickN u0 13).toNat ca (pwN 7 (secN u5).toNat) (sizedL u7.data.toList 8) (secN u4).toNat = { role := 0, step := 1, sent := 0, got := 0, prev := 0, skip := (pickN u0 13).toNat, cap := ca, root := rootL (sizedL u7.data.toList 8) (pwN (pwN 7 (secN u5).toNat) (secN u4).toNat), out := chainL (sizedL u7.data.toList 8) (pwN (pwN 7 (secN u5).toNat) (secN u4).toNat), inn := noneL, secret := (secN u4).toNat, peer := pwN 7 (secN u5).toNat, kept := [] } := by rw [newS, if_neg (by omega)]
  have qB : newS 1 (pickN u2 13).toNat cb 0 (sizedL u7.data.toList 8) (secN u5).toNat = { role := 1, step := 0, sent := 0, got := 0, prev := 0, skip := (pickN u2 13).toNat, cap := cb, root := sizedL u7.data.toList 8, out := noneL, inn := noneL, secret := (secN u5).toNat, peer := 0, kept := [] } := by rw [newS, if_pos rfl]
  rw [qA] at hk eA
  rw [qB] at hk eB
  have m0 : (((pickN u0 13).toNat : Nat) : Int) = pickN u0 13 := Int.toNat_of_nonneg sp0; have m2 : (((pickN u2 13).toNat : Nat) : Int) = pickN u2 13 := Int.toNat_of_nonneg sq0
  have hA' : ∃ b1 b2 b3 b4 b5 b8 b9 b10 : Value, w'.heap[P]? = some (.cells #[.string (str da), b1, b2, b3, b4, b5, .int .i64 (((pickN u0 13).toNat : Nat) : Int), .int .i64 ca, b8, b9, b10, .slice none 0 0] 41) := by rw [m0]; exact ⟨_, _, _, _, _, _, _, _, hP⟩
  have hB' : ∃ b1 b2 b3 b4 b5 b8 b9 b10 : Value, w'.heap[Q]? = some (.cells #[.string (str db), b1, b2, b3, b4, b5, .int .i64 (((pickN u2 13).toNat : Nat) : Int), .int .i64 cb, b8, b9, b10, .slice none 0 0] 41) := by rw [m2]; exact ⟨_, _, _, _, _, _, _, _, hQ⟩
  exact ⟨a01 (secN u5).toNat (secN u4).toNat, _, _, .slice none 0 0, .slice none 0 0, [], [], da, db, ka, kb, ⟨⟨hA', World.ownsRow_nil _ _ _ _, gA, eA⟩, ⟨hB', World.ownsRow_nil _ _ _ _, gB, eB⟩, ⟨hk, ⟨0, late_none _ _ rfl (by show 1 ≤ 2; omega) (by show 0 ≤ 1; omega) rfl rfl⟩, ⟨0, late_none _ _ rfl (by show 0 ≤ 2; omega) (by show 1 ≤ 1; omega) rfl rfl⟩⟩, fun k hk => (by cases hk), by omega, by omega, by omega, by omega⟩, rfl, rfl, rfl, rfl⟩
theorem cellA_eq {w w1 : World} {b : Nat} (h : w1.heap[b]? = w.heap[b]?) (j : Nat) : w1.cell? ⟨b, j, none⟩ = w.cell? ⟨b, j, none⟩ := by
  unfold World.cell?; rw [show w1.heap[(⟨b, j, none⟩ : Addr).block]? = w.heap[(⟨b, j, none⟩ : Addr).block]? from h]
def BSet (P Q base N : Nat) : Nat → Prop := fun b => ASet P Q base b ∧ b < N
def MayGive (r : List UInt8) (w : World) (P Q base rho k : Nat) : Prop := ∀ (w' : World) (draw : Int), Below w.heap.size w w' → Sec draw →
  Calls Try.prog 9 #[.pointer (some ⟨P, 0, none⟩), .pointer (some ⟨Q, 0, none⟩), .int .i64 k, .int .i64 draw] w' fun e w'' => e = .returned (.bool true) ∧ TwoAX r w'' P Q base rho ∧ Only (BSet P Q base w.heap.size) w' w''
def GiveOut (r : List UInt8) (w : World) (P Q base rho k : Nat) (e : Ending) : Prop := ∃ b, e = .returned (.bool b) ∧ (b = true → MayGive r w P Q base rho k)
structure Ready (r : List UInt8) (w : World) (P Q base rho n v : Nat) (xv : Option Addr) (xc : Nat) (sk cp : Int) : Prop where
  c11 : w.cell? ⟨Q, 11, none⟩ = some (.slice xv n xc)
  c6 : w.cell? ⟨P, 6, none⟩ = some (.int .i64 sk)
  c7 : w.cell? ⟨P, 7, none⟩ = some (.int .i64 cp)
  hP : P < w.heap.size
  hQ : Q < w.heap.size
  hn : n ≤ 1550
  step : ∀ w', Below w.heap.size w w' → Calls Try.prog 11 #[.slice xv n xc, .int .i64 ((1 - rho : Nat) : Int)] w' fun e w'' => e = .returned (.int .i64 v) ∧ w'' = w'
  write : ∀ (w' : World) (tx : ByteArray), Below w.heap.size w w' → tx.size ≤ maxLen → Calls Try.prog 8 #[.pointer (some ⟨P, 0, none⟩), .int .i64 v, .string tx] w' fun e w'' => e = .returned (.bool true) ∧ TwoAX r w'' P Q base rho ∧ Only (fun b => b ≠ Q ∧ BSet P Q base w.heap.size b) w' w''
  wait : ∀ k, k < n → ∀ w', Below w.heap.size w w' → Calls Try.prog 13 #[.slice xv n xc, .int .i64 k, .int .i64 sk, .int .i64 cp] w' fun e w'' => GiveOut r w P Q base rho k e ∧ Below w'.heap.size w' w''
theorem arr_ready {r : List UInt8} {w : World} {P Q base rho : Nat} (h : TwoAX r w P Q base rho) (hrho : rho ≤ 1) : ∃ n v xv xc sk cp, Ready r w P Q base rho n v xv xc sk cp := by
  obtain ⟨a, s, t, vls, vlt, Ls, Lt, ds, dt, ks, kt, h, hr, hr2⟩ := h; obtain ⟨xv, xc, hvl⟩ := ltForm h.q.row; subst hvl; obtain ⟨b1, b2, b3, b4, b5, b8, b9, b10, hblk⟩ := h.p.blk; obtain ⟨e1, e2, e3, e4, e5, e8, e9, e10, hbq⟩ := h.q.blk; have hlen : Lt.length ≤ 1550 := h.arr.keep.symm.len_le
  have hL : (stripL Lt).length ≤ 1550 := by rw [stripL_length]; exact hlen
  obtain ⟨mt, hmt⟩ := h.arr.lt; have hlt := h.arr.keep.pair.lt; have hls := h.arr.keep.pair.ls
  have hst : ∀ j, ((stripL Lt).getD j ltZ).step ≤ 1000 := fun j => by
    rw [stripL_getD]
    show (Lt.getD j ltZ).step ≤ 1000
    rcases Nat.lt_or_ge j Lt.length with q | q
    · have := (hmt.low j q).2; have := hlt.step; omega
    · rw [List.getD_eq_getElem?_getD, List.getElem?_eq_none q]; exact Nat.zero_le _
  have hpar := hls.par
  rw [hr] at hpar
  have hf1 : 1 - rho ≤ s.step := by omega
  have hf2 : s.step ≤ 1 → 1 - rho = s.step := fun q => by omega
  refine ⟨(stripL Lt).length, s.step, xv, xc, s.skip, s.cap, ⟨cell_of_row w _ 11 _ _ _ hbq, cell_of_row w _ 6 _ _ _ hblk, cell_of_row w _ 7 _ _ _ hblk, aat_lt h.p, aat_lt h.q, hL, fun w' hb => ?_, fun w' tx hb ht => (awrites (h.next hb) hr hr2 tx ht).mono (fun e w'' ⟨x1, x2, x3, _⟩ => ⟨x1, x2, x3.mono (fun k _ q => q.elim (fun z => ⟨by rw [z]; exact h.hPQ, .inl z, by rw [z]; exact aat_lt h.p⟩) (fun z => ⟨by have := (h.p.row.lt k z).1; have := h.hQ; omega, .inr (.inr (h.p.row.lt k z).1), (h.p.row.lt k z).2⟩))⟩), fun k hk w' hb => ?_⟩⟩
  · refine (stepOf_any xv _ xc base (stripL Lt) (1 - rho) w' (h.next hb).q.row (by omega) (by omega) hst).mono ?_
    rintro e w'' ⟨v, he, ⟨q1, q2, q3⟩, hw⟩
    have hv : v = s.step := by
      refine hmt.come (first := 1 - rho) hf1 hf2 q1 (fun k hk ho => ?_) ?_
      · have := q2 k (by rw [stripL_length]; exact hk) (by rw [stripL_getD]; exact ho)
        rw [stripL_getD] at this; exact this
      · rcases q3 with q | ⟨j, j1, j2, j3⟩
        · exact .inl q
        · rw [stripL_getD] at j2 j3
          exact .inr ⟨j, by rw [← stripL_length]; exact j1, j2, j3⟩
    rw [he, hv]; exact ⟨rfl, hw⟩
  · refine (waits_any xv _ xc base (stripL Lt) k s.skip s.cap w' (h.next hb).q.row (by omega) hk (by have := hls.skip; omega) (by have := hls.cap; omega) hst).mono ?_
    rintro e w'' ⟨⟨b, he, hb2⟩, hbw⟩
    refine ⟨⟨b, he, fun q w3 draw hb3 hs => ?_⟩, hbw⟩
    exact (aarrives (h.next hb3) hr hr2 k (by rw [← stripL_length]; exact hk) (stripL_wait (hb2 q)) draw hs).mono (fun e w'' ⟨x1, x2, x3⟩ => ⟨x1, x2, x3.mono (fun k _ q => q.elim (fun z => ⟨.inl z, by rw [z]; exact aat_lt h.p⟩) (fun z => ⟨.inr (.inr (h.q.row.lt k z).1), (h.q.row.lt k z).2⟩))⟩)
set_option maxHeartbeats 4000000 in
theorem arrives_walk (u0 u1 u2 u3 u4 u5 u6 : Int) (u7 : ByteArray) (v : Value) (l : List StepM) (h0 : (-9223372036854775808 ≤ u0 ∧ u0 ≤ 9223372036854775807)) (h1 : (-9223372036854775808 ≤ u1 ∧ u1 ≤ 9223372036854775807)) (h2 : (-9223372036854775808 ≤ u2 ∧ u2 ≤ 9223372036854775807)) (h3 : (-9223372036854775808 ≤ u3 ∧ u3 ≤ 9223372036854775807)) (h4 : (-9223372036854775808 ≤ u4 ∧ u4 ≤ 9223372036854775807)) (h5 : (-9223372036854775808 ≤ u5 ∧ u5 ≤ 9223372036854775807)) (h6 : (-9223372036854775808 ≤ u6 ∧ u6 ≤ 9223372036854775807)) (h7 : u7.size ≤ maxLen) (w : World) (hv : StepsAt w v l) (hll : l.length ≤ 1000000000000000) (hok : ∀ o ∈ l, StepOk o) :
    Calls Try.prog 3 #[.agg #[.int .i64 u0, .int .i64 u1, .int .i64 u2, .int .i64 u3, .int .i64 u4, .int .i64 u5, .int .i64 u6, .string u7], v] w fun e w' => e = .returned (.bool true) ∧ Below w.heap.size w w' := by
  obtain ⟨av, ac, hvf⟩ := hv.form; subst hvf
  have c1 := fun w => begun_arr u0 u1 u2 u3 u4 u5 u6 u7 w h0 h1 h2 h3 h4 h5 h6 h7
  have cs4 := fun w => secretOf_any u4 w h4.1 h4.2
  have HS4 := hid (secN_sec u4)
  have HVB : Hid (l ≠ [] → ∀ q, (Value.slice av l.length ac).ownBlock = some q → q < w.heap.size) := fun hne q hq => hv.lt hne hq
  have HOK := hid hok
  generalize sizedL u7.data.toList 8 = r at *
  generalize secN u4 = d4 at *
  clear hok
  go_enter Try.func3, Try.ntmps3
  go_upto_region 1 with fail
  obtain ⟨ob, eob⟩ : ∃ ob, ob = Obj.cells #[.int .i64 u0, .int .i64 u1, .int .i64 u2, .int .i64 u3, .int .i64 u4, .int .i64 u5, .int .i64 u6, .string u7] 23 := ⟨_, rfl⟩
  rw [← eob]; have hS := heap_alloc_new w ob; have hW : Below w.heap.size w (w.alloc ob) := (Below.refl _ _).alloc (Nat.le_refl _) _
  have hsz : w.heap.size < (w.alloc ob).heap.size := by simp
  generalize (w.alloc ob) = wa at hS hW hsz ⊢
  subst eob; have HW := hid hW; have HV := hid (hv.next hW); have HS := hid hS; have k0 : wa.cell? ⟨w.heap.size, 0, none⟩ = some (.int .i64 u0) := cell_of_row wa _ 0 _ _ _ hS; have k1 : wa.cell? ⟨w.heap.size, 1, none⟩ = some (.int .i64 u1) := cell_of_row wa _ 1 _ _ _ hS; have k2 : wa.cell? ⟨w.heap.size, 2, none⟩ = some (.int .i64 u2) := cell_of_row wa _ 2 _ _ _ hS; have k3 : wa.cell? ⟨w.heap.size, 3, none⟩ = some (.int .i64 u3) := cell_of_row wa _ 3 _ _ _ hS; have k4 : wa.cell? ⟨w.heap.size, 4, none⟩ = some (.int .i64 u4) := cell_of_row wa _ 4 _ _ _ hS; have k5 : wa.cell? ⟨w.heap.size, 5, none⟩ = some (.int .i64 u5) := cell_of_row wa _ 5 _ _ _ hS; have k6 : wa.cell? ⟨w.heap.size, 6, none⟩ = some (.int .i64 u6) := cell_of_row wa _ 6 _ _ _ hS; have k7 : wa.cell? ⟨w.heap.size, 7, none⟩ = some (.string u7) := cell_of_row wa _ 7 _ _ _ hS; clear hS hW hv
  go_upto_region 2 with (first | (go_at_call 7; (with_reducible refine (c1 _).mono ?_); rintro e w1 ⟨⟨P, Q, rfl, hPw, hPQ, hQw, hT⟩, hb1⟩))
  have HW1 := hid (below_tr HW.out hb1); have HV1 := hid (HV.out.next hb1)
  have hwP : w.heap.size < P := by omega
  have HT := hid hT; have hS1 := (hb1.block w.heap.size hsz).trans HS.out; have HS1 := hid hS1; have y7 : w1.cell? ⟨w.heap.size, 7, none⟩ = some (.string u7) := cell_of_row w1 _ 7 _ _ _ hS1
  have hws1 : w.heap.size < w1.heap.size := by omega
  have HMS : Hid (∀ k, ASet P Q (Q + 1) k → w.heap.size < k) := by rintro k (q | q | q) <;> omega
  clear k0 k1 k2 k3 k4 k5 k6 k7 hb1 c1 HW HV HS hT hPw hsz hS1
  go_upto_region 5 with (first | (go_at_call 8; (with_reducible refine (first_write HT.out u7 h7).mono ?_); rintro e w2 ⟨rfl, hT2, hn2⟩))
  have hS2 := (hn2.block w.heap.size hws1 (fun q => by have := HMS.out _ q; omega)).trans HS1.out
  have hws2 : w.heap.size < w2.heap.size := by have := hn2.size; omega
  have y4 : w2.cell? ⟨w.heap.size, 4, none⟩ = some (.int .i64 u4) := cell_of_row w2 _ 4 _ _ _ hS2
  have HV2 := hid (HV1.out.only hn2 (fun hne q hq h => by have := HVB.out hne q hq; have := HMS.out q h; omega))
  have HW2 : Hid (Below w.heap.size w w2) := HW1.out.trans (hn2.below HW1.out.size (fun k hk => Nat.le_of_lt (HMS.out k hk)))
  have HT2 := hid hT2; clear HS1 hS2 HT HV1 HW1 hT2 hn2 hws1 y7
  go_upto_region 8 with (first | (go_at_call 10; (with_reducible refine (cs4 _).mono ?_); rintro e w' ⟨rfl, hw⟩; rw [hw]; clear hw w') | (go_at_call 9; (with_reducible refine (first_arrive HT2.out d4 HS4.out).mono ?_); rintro e w3 ⟨rfl, hT3, hn3⟩))
  have HV3 := hid (HV2.out.only hn3 (fun hne q hq h => by have := HVB.out hne q hq; have := HMS.out q h; omega))
  have HW3 : Hid (Below w.heap.size w w3) := HW2.out.trans (hn3.below HW2.out.size (fun k hk => Nat.le_of_lt (HMS.out k hk)))
  have HT3 := hid hT3; clear HT2 HV2 HW2 hT3 hn3 y4 hws2 cs4 HS4; go_wp2
  go_loopg [7, 8, 9, 10, 11, 12, 13, 14] (l.length + 1) (fun fu ok c x9 x10 x11 x12 x13 x14 wx => ∃ j : Nat, ok = .bool true ∧ c = .int .i64 j ∧ j ≤ l.length ∧ fu + j = l.length + 1 ∧ TwoAX r wx P Q (Q + 1) 0 ∧ StepsAt wx (.slice av l.length ac) l ∧ Below w.heap.size w wx)
  case atStart => exact ⟨0, rfl, rfl, by omega, by omega, HT3.out, HV3.out, HW3.out⟩
  case round =>
    clear HT3 HV3 HW3; obtain ⟨j, rfl, rfl, hj, hfu, hT, hV, hbx⟩ := hrel; have hsx := hbx.size; have HT := hid hT; have HV := hid hV; have HB := hid hbx; clear hT hbx
    by_cases hlt : j < l.length
    · obtain ⟨ob, off, ocap, hov, hobl, hoc⟩ : ∃ ob off ocap, Value.slice av l.length ac = .slice (some ⟨ob, off, none⟩) l.length ocap ∧ ob < wr.heap.size ∧ ∀ q, q < 10 → wr.cell? ⟨ob, off + j * 10 + q, none⟩ = (stepC (l.getD j stepZ))[q]? := by
        rcases hV with ⟨q, _⟩ | ⟨ob, off, ocap, q1, q2, q3⟩
        · rw [q] at hlt; simp at hlt
        · exact ⟨ob, off, ocap, q1, q2, q3 j hlt⟩
      injection hov with p1x p2x p3x
      subst p1x p3x; clear p2x
      have hne : l ≠ [] := fun e => by rw [e] at hlt; simp at hlt
      have hoo := HOK.out (l.getD j stepZ) (by rw [List.getD_eq_getElem?_getD, List.getElem?_eq_getElem hlt]; exact List.getElem_mem hlt)
      generalize l.getD j stepZ = oo at *
      obtain ⟨kd, who, pn, dr, tx, cut, f0, f1, k1, k2⟩ := oo; have hobG : ob < w.heap.size := HVB.out hne ob rfl
      have z0 : wr.cell? ⟨ob, off + j * 10 + 0, none⟩ = some (.int .i64 kd) := hoc 0 (by omega)
      have z1 : wr.cell? ⟨ob, off + j * 10 + 1, none⟩ = some (.int .i64 who) := hoc 1 (by omega)
      have z2 : wr.cell? ⟨ob, off + j * 10 + 2, none⟩ = some (.int .i64 pn) := hoc 2 (by omega)
      have z3 : wr.cell? ⟨ob, off + j * 10 + 3, none⟩ = some (.int .i64 dr) := hoc 3 (by omega)
      have z4 : wr.cell? ⟨ob, off + j * 10 + 4, none⟩ = some (.string tx) := hoc 4 (by omega)
      have z5 : wr.cell? ⟨ob, off + j * 10 + 5, none⟩ = some (.bool cut) := hoc 5 (by omega)
      have z6 : wr.cell? ⟨ob, off + j * 10 + 6, none⟩ = some (.int .i64 f0) := hoc 6 (by omega)
      have z7 : wr.cell? ⟨ob, off + j * 10 + 7, none⟩ = some (.int .i64 f1) := hoc 7 (by omega)
      have z8 : wr.cell? ⟨ob, off + j * 10 + 8, none⟩ = some (.string k1) := hoc 8 (by omega)
      have z9 : wr.cell? ⟨ob, off + j * 10 + 9, none⟩ = some (.string k2) := hoc 9 (by omega)
      have z00 : wr.cell? ⟨ob, off + j * 10, none⟩ = some (.int .i64 kd) := hoc 0 (by omega)
      have hjl : (j : Int) < (l.length : Int) := by omega
      have hjd : decide ((j : Int) < (l.length : Int)) = true := by rw [decide_eq_true_eq]; omega
      have hj0 : (0 : Int) ≤ (j : Int) := by omega
      clear hoc hV
      go_upto_region 12 with fail
      obtain ⟨ob, eob⟩ : ∃ ob, ob = Obj.cells #[.int .i64 kd, .int .i64 who, .int .i64 pn, .int .i64 dr, .string tx, .bool cut, .int .i64 f0, .int .i64 f1, .string k1, .string k2] 34 := ⟨_, rfl⟩
      rw [← eob]; have hO := heap_alloc_new wr ob; have hWo : Below wr.heap.size wr (wr.alloc ob) := (Below.refl _ _).alloc (Nat.le_refl _) _
      have hOlt : wr.heap.size < (wr.alloc ob).heap.size := by simp
      generalize (wr.alloc ob) = wo at hO hWo hOlt ⊢
      subst eob; have HWO := hid hWo; have o0 : wo.cell? ⟨wr.heap.size, 0, none⟩ = some (.int .i64 kd) := cell_of_row wo _ 0 _ _ _ hO; have o1 : wo.cell? ⟨wr.heap.size, 1, none⟩ = some (.int .i64 who) := cell_of_row wo _ 1 _ _ _ hO; have o2 : wo.cell? ⟨wr.heap.size, 2, none⟩ = some (.int .i64 pn) := cell_of_row wo _ 2 _ _ _ hO; have o3 : wo.cell? ⟨wr.heap.size, 3, none⟩ = some (.int .i64 dr) := cell_of_row wo _ 3 _ _ _ hO; have o4 : wo.cell? ⟨wr.heap.size, 4, none⟩ = some (.string tx) := cell_of_row wo _ 4 _ _ _ hO; have HO := hid hO; have hotx := hoo.tx; have hopn := hoo.pn; have hodr := hoo.dr; clear hO hWo hoo z0 z1 z2 z3 z4 z5 z6 z7 z8 z9 z00
      by_cases hwho : bits .and .i64 who 1 = 1
      · skip
        obtain ⟨n, vv, xv, xc, sk, cp, R⟩ := arr_ready (HT.out.symm (rho' := 1) (by omega) rfl) (by omega)
        have y11 : wo.cell? ⟨P, 11, none⟩ = some (.slice xv n xc) := (cellA_eq (HWO.out.block P R.hQ) _).trans R.c11; have y6 : wo.cell? ⟨Q, 6, none⟩ = some (.int .i64 sk) := (cellA_eq (HWO.out.block Q R.hP) _).trans R.c6; have y7 : wo.cell? ⟨Q, 7, none⟩ = some (.int .i64 cp) := (cellA_eq (HWO.out.block Q R.hP) _).trans R.c7; have hYlt : P < wr.heap.size := R.hQ; have hXlt : Q < wr.heap.size := R.hP; have hn15 := R.hn; have HRD := hid R
        have cStep : ∀ w', Below wr.heap.size wr w' → Calls Try.prog 11 #[.slice xv n xc, .int .i64 0] w' fun e w'' => e = .returned (.int .i64 vv) ∧ w'' = w' := R.step
        clear R
        go_upto_region 19 with fail
        by_cases q1 : kd = 1
        · have n1 : (kd == 1) = true := by rw [beq_iff_eq]; exact q1
          have n2 : (kd == 2) = false := by rw [beq_eq_false_iff_ne]; omega
          clear q1
          go_upto_region 20 with fail
          go_region_held3 (fun w' => w'.cell? ⟨wr.heap.size, 4, none⟩ = some (.string tx) ∧ w'.cell? ⟨P, 11, none⟩ = some (.slice xv n xc)) (first | (simp [o4, y11]; done) | (simp [g4, g11]; done)) (first | (go_at_call 11; go_must (with_reducible refine (cStep _ (by first | exact HWO.out.drew | exact HWO.out)).mono ?_); rintro e w' ⟨rfl, hw⟩; rw [hw]; clear hw w') | (go_at_call 8; go_must (with_reducible refine (HRD.out.write _ tx (by first | exact HWO.out.drew | exact HWO.out) hotx).mono ?_); rintro e w4 ⟨rfl, hT4, hn4⟩; have g4 : w4.cell? ⟨wr.heap.size, 4, none⟩ = some (.string tx) := (cellA_eq (hn4.block wr.heap.size hOlt (fun q => by have := q.2.2; omega)) _).trans o4; have g11 : w4.cell? ⟨P, 11, none⟩ = some (.slice xv n xc) := (cellA_eq (hn4.block P (Nat.lt_of_lt_of_le hYlt HWO.out.size) (fun q => q.1 rfl)) _).trans y11))
          have g0 : w4.cell? ⟨wr.heap.size, 0, none⟩ = some (.int .i64 kd) := (cellA_eq (hn4.block wr.heap.size hOlt (fun q => by have := q.2.2; omega)) _).trans o0
          have HT4 : Hid (TwoAX r w4 P Q (Q + 1) 0) := hT4.symm (by omega) rfl
          have HV4 := hid ((HV.out.next HWO.out.drew).only hn4 (fun hne q hq h => by have := HVB.out hne q hq; have := HMS.out q (h.2.1).symm; omega))
          have HB4 : Hid (Below w.heap.size w w4) := (HB.out.trans (HWO.out.drew.mono hsx)).trans (hn4.below (Nat.le_trans hsx HWO.out.size) (fun k hk => Nat.le_of_lt (HMS.out k (hk.2.1).symm)))
          clear hT4 hn4 g4 o0 o1 o2 o3 o4 y11 y6 y7 HRD cStep; go_wp2
          go_roundg (gk - 1)
          case measure => omega
          case rel => exact ⟨j + 1, rfl, by simp, by omega, by omega, HT4.out, HV4.out, HB4.out⟩
        · have n1 : (kd == 1) = false := by rw [beq_eq_false_iff_ne]; exact q1
          have HTo := hid (HT.out.next HWO.out); have HVo := hid (HV.out.next HWO.out); have HBo : Hid (Below w.heap.size w wo) := HB.out.trans (HWO.out.mono hsx)
          by_cases q2 : kd = 2
          · have n2 : (kd == 2) = true := by rw [beq_iff_eq]; exact q2
            by_cases q3 : n = 0
            · have n3 : ¬ (0 : Int) < (n : Int) := by omega
              have n4 : decide (0 < n) = false := by rw [decide_eq_false_iff_not]; omega
              have n5 : decide ((0 : Int) < (n : Int)) = false := by rw [decide_eq_false_iff_not]; omega
              clear q1 q2 q3 HRD cStep; go_wp2
              go_roundg (gk - 1)
              case measure => omega
              case rel => exact ⟨j + 1, rfl, by simp, by omega, by omega, HTo.out, HVo.out, HBo.out⟩
            · have n3 : (0 : Int) < (n : Int) := by omega
              have n4 : decide (0 < n) = true := by rw [decide_eq_true_eq]; omega
              have n5 : decide ((0 : Int) < (n : Int)) = true := by rw [decide_eq_true_eq]; omega
              obtain ⟨b0, b1⟩ := pickN_bd pn (n : Int) (by omega)
              obtain ⟨kk, hkk⟩ := Int.eq_ofNat_of_zero_le b0
              have cP := fun w => pick_any pn (n : Int) w hopn.1 hopn.2 (by omega) (by omega)
              rw [hkk] at cP b1
              have hkn : kk < n := by omega
              have HWT := hid (HRD.out.wait kk hkn)
              have cD := fun w => secretOf_any dr w hodr.1 hodr.2
              have HSD := hid (secN_sec dr)
              generalize secN dr = dd at *
              clear q1 q2 q3 hkk b0 b1 HRD cStep
              go_upto_region 22 with fail
              go_region_held3 (fun w' => w'.cell? ⟨wr.heap.size, 2, none⟩ = some (.int .i64 pn) ∧ w'.cell? ⟨P, 11, none⟩ = some (.slice xv n xc)) (first | (simp [o2, y11]; done)) (first | (go_at_call 12; go_must (with_reducible refine (cP _).mono ?_); rintro e w' ⟨rfl, hw⟩; rw [hw]; clear hw w'))
              go_upto_region 23 with fail
              go_region_held3 (fun w' => w'.cell? ⟨P, 11, none⟩ = some (.slice xv n xc) ∧ w'.cell? ⟨Q, 6, none⟩ = some (.int .i64 sk) ∧ w'.cell? ⟨Q, 7, none⟩ = some (.int .i64 cp)) (first | (simp [y11, y6, y7]; done) | (simp [g11, g6, g7]; done)) (first | (go_at_call 13; go_must (with_reducible refine (HWT.out _ (by first | exact HWO.out.drew.drew | exact HWO.out.drew)).mono ?_); rintro e w5 ⟨⟨bb, rfl, hgive⟩, hb5⟩; have g11 : w5.cell? ⟨P, 11, none⟩ = some (.slice xv n xc) := (cellA_eq (hb5.block P (Nat.lt_of_lt_of_le hYlt HWO.out.size)) _).trans y11; have g6 : w5.cell? ⟨Q, 6, none⟩ = some (.int .i64 sk) := (cellA_eq (hb5.block Q (Nat.lt_of_lt_of_le hXlt HWO.out.size)) _).trans y6; have g7 : w5.cell? ⟨Q, 7, none⟩ = some (.int .i64 cp) := (cellA_eq (hb5.block Q (Nat.lt_of_lt_of_le hXlt HWO.out.size)) _).trans y7))
              have hb5w : Below wr.heap.size wr w5 := below_tr HWO.out.drew.drew hb5; have g3 : w5.cell? ⟨wr.heap.size, 3, none⟩ = some (.int .i64 dr) := (cellA_eq (hb5.block wr.heap.size hOlt) _).trans o3; have HT5 := hid (HT.out.next hb5w); have HV5 := hid (HV.out.next hb5w); have HB5 : Hid (Below w.heap.size w w5) := HB.out.trans (hb5w.mono hsx); have hs5 := HB5.out.size
              have cG := fun (hq : bb = true) => hgive hq w5 dd hb5w HSD.out
              clear hgive hb5 hb5w g11 g6 g7 o0 o1 o2 o3 o4 y11 y6 y7 HWT cP HTo HVo HBo
              cases bb with
              | false =>
                clear cG; go_wp2
                go_roundg (gk - 1)
                case measure => omega
                case rel => exact ⟨j + 1, rfl, by simp, by omega, by omega, HT5.out, HV5.out, HB5.out⟩
              | true =>
                have cG2 := cG rfl; clear cG
                go_wp2_with (first | (go_at_call 10; (with_reducible refine (cD _).mono ?_); rintro e w' ⟨rfl, hw⟩; rw [hw]; clear hw w') | (go_at_call 9; (with_reducible refine cG2.mono ?_); rintro e w6 ⟨rfl, hT6, hn6⟩; have HT6 := hid hT6; have HN6 := hid hn6; clear hT6 hn6))
                go_roundg (gk - 1)
                case measure => omega
                case rel => exact ⟨j + 1, rfl, by simp, by omega, by omega, HT6.out.symm (by omega) rfl, HV5.out.only HN6.out (fun hne q hq h => by have := HVB.out hne q hq; have := HMS.out q (h.1).symm; omega), HB5.out.trans (HN6.out.below hs5 (fun k hk => Nat.le_of_lt (HMS.out k (hk.1).symm)))⟩
          · have n2 : (kd == 2) = false := by rw [beq_eq_false_iff_ne]; exact q2
            clear q1 q2 HRD cStep; go_wp2
            go_roundg (gk - 1)
            case measure => omega
            case rel => exact ⟨j + 1, rfl, by simp, by omega, by omega, HTo.out, HVo.out, HBo.out⟩
      · skip
        obtain ⟨n, vv, xv, xc, sk, cp, R⟩ := arr_ready HT.out (by omega)
        have y11 : wo.cell? ⟨Q, 11, none⟩ = some (.slice xv n xc) := (cellA_eq (HWO.out.block Q R.hQ) _).trans R.c11; have y6 : wo.cell? ⟨P, 6, none⟩ = some (.int .i64 sk) := (cellA_eq (HWO.out.block P R.hP) _).trans R.c6; have y7 : wo.cell? ⟨P, 7, none⟩ = some (.int .i64 cp) := (cellA_eq (HWO.out.block P R.hP) _).trans R.c7; have hYlt : Q < wr.heap.size := R.hQ; have hXlt : P < wr.heap.size := R.hP; have hn15 := R.hn; have HRD := hid R
        have cStep : ∀ w', Below wr.heap.size wr w' → Calls Try.prog 11 #[.slice xv n xc, .int .i64 1] w' fun e w'' => e = .returned (.int .i64 vv) ∧ w'' = w' := R.step
        clear R
        go_upto_region 19 with fail
        by_cases q1 : kd = 1
        · have n1 : (kd == 1) = true := by rw [beq_iff_eq]; exact q1
          have n2 : (kd == 2) = false := by rw [beq_eq_false_iff_ne]; omega
          clear q1
          go_upto_region 20 with fail
          go_region_held3 (fun w' => w'.cell? ⟨wr.heap.size, 4, none⟩ = some (.string tx) ∧ w'.cell? ⟨Q, 11, none⟩ = some (.slice xv n xc)) (first | (simp [o4, y11]; done) | (simp [g4, g11]; done)) (first | (go_at_call 11; go_must (with_reducible refine (cStep _ (by first | exact HWO.out.drew | exact HWO.out)).mono ?_); rintro e w' ⟨rfl, hw⟩; rw [hw]; clear hw w') | (go_at_call 8; go_must (with_reducible refine (HRD.out.write _ tx (by first | exact HWO.out.drew | exact HWO.out) hotx).mono ?_); rintro e w4 ⟨rfl, hT4, hn4⟩; have g4 : w4.cell? ⟨wr.heap.size, 4, none⟩ = some (.string tx) := (cellA_eq (hn4.block wr.heap.size hOlt (fun q => by have := q.2.2; omega)) _).trans o4; have g11 : w4.cell? ⟨Q, 11, none⟩ = some (.slice xv n xc) := (cellA_eq (hn4.block Q (Nat.lt_of_lt_of_le hYlt HWO.out.size) (fun q => q.1 rfl)) _).trans y11))
          have g0 : w4.cell? ⟨wr.heap.size, 0, none⟩ = some (.int .i64 kd) := (cellA_eq (hn4.block wr.heap.size hOlt (fun q => by have := q.2.2; omega)) _).trans o0
          have HT4 : Hid (TwoAX r w4 P Q (Q + 1) 0) := hT4
          have HV4 := hid ((HV.out.next HWO.out.drew).only hn4 (fun hne q hq h => by have := HVB.out hne q hq; have := HMS.out q h.2.1; omega))
          have HB4 : Hid (Below w.heap.size w w4) := (HB.out.trans (HWO.out.drew.mono hsx)).trans (hn4.below (Nat.le_trans hsx HWO.out.size) (fun k hk => Nat.le_of_lt (HMS.out k hk.2.1)))
          clear hT4 hn4 g4 o0 o1 o2 o3 o4 y11 y6 y7 HRD cStep; go_wp2
          go_roundg (gk - 1)
          case measure => omega
          case rel => exact ⟨j + 1, rfl, by simp, by omega, by omega, HT4.out, HV4.out, HB4.out⟩
        · have n1 : (kd == 1) = false := by rw [beq_eq_false_iff_ne]; exact q1
          have HTo := hid (HT.out.next HWO.out); have HVo := hid (HV.out.next HWO.out); have HBo : Hid (Below w.heap.size w wo) := HB.out.trans (HWO.out.mono hsx)
          by_cases q2 : kd = 2
          · have n2 : (kd == 2) = true := by rw [beq_iff_eq]; exact q2
            by_cases q3 : n = 0
            · have n3 : ¬ (0 : Int) < (n : Int) := by omega
              have n4 : decide (0 < n) = false := by rw [decide_eq_false_iff_not]; omega
              have n5 : decide ((0 : Int) < (n : Int)) = false := by rw [decide_eq_false_iff_not]; omega
              clear q1 q2 q3 HRD cStep; go_wp2
              go_roundg (gk - 1)
              case measure => omega
              case rel => exact ⟨j + 1, rfl, by simp, by omega, by omega, HTo.out, HVo.out, HBo.out⟩
            · have n3 : (0 : Int) < (n : Int) := by omega
              have n4 : decide (0 < n) = true := by rw [decide_eq_true_eq]; omega
              have n5 : decide ((0 : Int) < (n : Int)) = true := by rw [decide_eq_true_eq]; omega
              obtain ⟨b0, b1⟩ := pickN_bd pn (n : Int) (by omega)
              obtain ⟨kk, hkk⟩ := Int.eq_ofNat_of_zero_le b0
              have cP := fun w => pick_any pn (n : Int) w hopn.1 hopn.2 (by omega) (by omega)
              rw [hkk] at cP b1
              have hkn : kk < n := by omega
              have HWT := hid (HRD.out.wait kk hkn)
              have cD := fun w => secretOf_any dr w hodr.1 hodr.2
              have HSD := hid (secN_sec dr)
              generalize secN dr = dd at *
              clear q1 q2 q3 hkk b0 b1 HRD cStep
              go_upto_region 22 with fail
              go_region_held3 (fun w' => w'.cell? ⟨wr.heap.size, 2, none⟩ = some (.int .i64 pn) ∧ w'.cell? ⟨Q, 11, none⟩ = some (.slice xv n xc)) (first | (simp [o2, y11]; done)) (first | (go_at_call 12; go_must (with_reducible refine (cP _).mono ?_); rintro e w' ⟨rfl, hw⟩; rw [hw]; clear hw w'))
              go_upto_region 23 with fail
              go_region_held3 (fun w' => w'.cell? ⟨Q, 11, none⟩ = some (.slice xv n xc) ∧ w'.cell? ⟨P, 6, none⟩ = some (.int .i64 sk) ∧ w'.cell? ⟨P, 7, none⟩ = some (.int .i64 cp)) (first | (simp [y11, y6, y7]; done) | (simp [g11, g6, g7]; done)) (first | (go_at_call 13; go_must (with_reducible refine (HWT.out _ (by first | exact HWO.out.drew.drew | exact HWO.out.drew)).mono ?_); rintro e w5 ⟨⟨bb, rfl, hgive⟩, hb5⟩; have g11 : w5.cell? ⟨Q, 11, none⟩ = some (.slice xv n xc) := (cellA_eq (hb5.block Q (Nat.lt_of_lt_of_le hYlt HWO.out.size)) _).trans y11; have g6 : w5.cell? ⟨P, 6, none⟩ = some (.int .i64 sk) := (cellA_eq (hb5.block P (Nat.lt_of_lt_of_le hXlt HWO.out.size)) _).trans y6; have g7 : w5.cell? ⟨P, 7, none⟩ = some (.int .i64 cp) := (cellA_eq (hb5.block P (Nat.lt_of_lt_of_le hXlt HWO.out.size)) _).trans y7))
              have hb5w : Below wr.heap.size wr w5 := below_tr HWO.out.drew.drew hb5; have g3 : w5.cell? ⟨wr.heap.size, 3, none⟩ = some (.int .i64 dr) := (cellA_eq (hb5.block wr.heap.size hOlt) _).trans o3; have HT5 := hid (HT.out.next hb5w); have HV5 := hid (HV.out.next hb5w); have HB5 : Hid (Below w.heap.size w w5) := HB.out.trans (hb5w.mono hsx); have hs5 := HB5.out.size
              have cG := fun (hq : bb = true) => hgive hq w5 dd hb5w HSD.out
              clear hgive hb5 hb5w g11 g6 g7 o0 o1 o2 o3 o4 y11 y6 y7 HWT cP HTo HVo HBo
              cases bb with
              | false =>
                clear cG; go_wp2
                go_roundg (gk - 1)
                case measure => omega
                case rel => exact ⟨j + 1, rfl, by simp, by omega, by omega, HT5.out, HV5.out, HB5.out⟩
              | true =>
                have cG2 := cG rfl; clear cG
                go_wp2_with (first | (go_at_call 10; (with_reducible refine (cD _).mono ?_); rintro e w' ⟨rfl, hw⟩; rw [hw]; clear hw w') | (go_at_call 9; (with_reducible refine cG2.mono ?_); rintro e w6 ⟨rfl, hT6, hn6⟩; have HT6 := hid hT6; have HN6 := hid hn6; clear hT6 hn6))
                go_roundg (gk - 1)
                case measure => omega
                case rel => exact ⟨j + 1, rfl, by simp, by omega, by omega, HT6.out, HV5.out.only HN6.out (fun hne q hq h => by have := HVB.out hne q hq; have := HMS.out q h.1; omega), HB5.out.trans (HN6.out.below hs5 (fun k hk => Nat.le_of_lt (HMS.out k hk.1)))⟩
          · have n2 : (kd == 2) = false := by rw [beq_eq_false_iff_ne]; exact q2
            clear q1 q2 HRD cStep; go_wp2
            go_roundg (gk - 1)
            case measure => omega
            case rel => exact ⟨j + 1, rfl, by simp, by omega, by omega, HTo.out, HVo.out, HBo.out⟩
    · have hjl : ¬ (j : Int) < (l.length : Int) := by omega
      have hjd : decide ((j : Int) < (l.length : Int)) = false := by rw [decide_eq_false_iff_not]; omega
      clear hV; go_wp2; go_ret; exact ⟨rfl, HB.out⟩
end Go.Proofs.Ytabpkohcimiceab
