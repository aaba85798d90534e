/- Behind a take just those pages are free no more that were taken, behind a put just those have come: the law RunsPages answers true at every input, and its arguments read behind the call as they read before. -/
import Derived.Test.YtpngbajahpnlgaaRunSome
import Derived.Test.YtpngbajahpnlgaaRunHas
namespace Go.Proofs.Ytpngbajahpnlgaa.runsPages
open Go.ChangeShapes Go.WideShapes Go.ChangeAt Go.RowKit

set_option maxRecDepth 100000 in
set_option maxHeartbeats 8000000 in
theorem walk (p : Nat) (hp : p < 256) (a1 : Option Addr) (n1 c1 : Nat) (_h11 : n1 ≤ c1) (_h12 : c1 ≤ maxLen) (a2 : Option Addr) (n2 c2 : Nat) (_h21 : n2 ≤ c2) (_h22 : c2 ≤ maxLen) (k : Nat) (hk : k < 256) (tt0 : Nat) (htt : tt0 < 256) (w : World)
    (q1 : ∃ f : Nat → Nat, ∀ k, k < n1 → f k < 256 ∧ AtB w a1 k (.int .u8 (f k : Nat))) (q2 : ∃ f : Nat → Nat, ∀ k, k < n2 → f k < 256 ∧ AtB w a2 k (.int .u8 (f k : Nat))) :
    Calls Try.prog 6 #[.int .u8 (p : Int), .slice a1 n1 c1, .slice a2 n2 c2, .int .u8 (k : Int), .int .u8 (tt0 : Int)] w fun e w' => e = .returned (.bool true) ∧ Below w.heap.size w w' := by
  obtain ⟨f1, b1⟩ := q1
  obtain ⟨f2, b2⟩ := q2
  unfold maxLen at _h12 _h22
  have HS := hide (some21 w p hp a1 n1 c1 f1 (by omega) b1 a2 n2 c2 f2 (by omega) b2)
  clear b1 b2 _h11 _h12 _h21 _h22
  generalize 1 + p % 100 = pg at *
  generalize drawsOf f1 (min n1 60) = ds at *
  obtain ⟨n, hn⟩ : ∃ n, (1 : Int) + (k : Int) % 9 = n := ⟨_, rfl⟩
  obtain ⟨x, hx⟩ : ∃ x, (tt0 : Int) % 100 = x := ⟨_, rfl⟩
  have hnb : 1 ≤ n ∧ n ≤ 9 := by omega
  have hxb : 0 ≤ x ∧ x ≤ 99 := by omega
  have HAW := fun w => hide (awake20 w)
  go_enter Try.func6, Try.ntmps6
  go_wp2_with fail
  refine HS.out.mono ?_
  rintro e w1 ⟨r, dn, L, rfl, o1, hf⟩
  have HF := hide hf
  have HL1 := hide (listP Loc.nought o1 (hf.fine (by omega)))
  clear o1 hf HS
  go_wp2_with fail
  refine HL1.out.mono ?_
  rintro e w2 ⟨v, rfl, o2⟩
  have HTK := hide (takeP (Loc.rv.sep Loc.nought) o2 (HF.out.fine (by omega)) n)
  have F1 := HF.out.take n
  have TP := fun p => take_pages HF.out hnb.1 p
  clear o2 HL1
  have hy : 0 ≤ (takeA n L).1 ∧ (takeA n L).1 < 8192 := by
    unfold takeA
    split
    · simp
    · split
      · simp
      · next i _ => exact rA_bd i.1
  generalize (takeA n L).1 = y at *
  generalize (takeA n L).2 = E at *
  generalize (takeS ds n dn L).1 = dn1 at *
  generalize (takeS ds n dn L).2 = L1 at *
  have HF1 := hide F1
  have HTP := hide TP
  clear F1 TP
  go_wp2_with fail
  refine HTK.out.mono ?_
  rintro e w3 ⟨rfl, o3⟩
  have HL2 := hide (listP (Loc.rv.sep Loc.nought) o3 (HF1.out.fine (by omega)))
  clear o3 HTK
  go_wp2_with fail
  refine HL2.out.mono ?_
  rintro e w4 ⟨v4, rfl, o4⟩
  have hv4 : RunsV w4 v4 (runsOf L1) := by obtain ⟨_, h, _⟩ := o4.mid; exact h
  have hv2 : RunsV w4 v (runsOf L) := by obtain ⟨_, h, _⟩ := o4.drop2.mid; exact h
  have HO4 := hide o4
  have HH4 := fun (u : World) (hu : Alike w4 u) (q : Int) (hq : -1000000 ≤ q ∧ q ≤ 1000000) => hide (has23 u v4 (runsOf L1) (hv4.below (hu.below _)) (small_of HF1.out) (by rw [runsOf_length]; have := HF1.out.len; omega) q hq)
  have HH2 := fun (u : World) (hu : Alike w4 u) (q : Int) (hq : -1000000 ≤ q ∧ q ≤ 1000000) => hide (has23 u v (runsOf L) (hv2.below (hu.below _)) (small_of HF.out) (by rw [runsOf_length]; have := HF.out.len; omega) q hq)
  have HHH4 := hide HH4
  have HHH2 := hide HH2
  clear o4 hv4 hv2 HL2 HH4 HH2
  go_wp2
  go_loopg [17, 18] 101 (fun g r17 r18 wr => ∃ j : Nat, j + g = 101 ∧ r17 = .int .i64 (j : Int) ∧ Alike w4 wr)
  case atStart => exact ⟨0, by omega, rfl, Alike.refl _⟩
  case round =>
    obtain ⟨j, hj, rfl, hal⟩ := hrel
    by_cases hj1 : j = 101
    · subst hj1
      have HA := hide hal
      clear hal HHH2 HHH4 HTP
      have HPT := hide (putP (Loc.rv.sep (Loc.rv.sep Loc.nought)) (HO4.out.below (Loc.rr.sep (Loc.rv.sep (Loc.rv.sep Loc.nought))) (HA.out.below _)) (HF1.out.fine (by omega)) x n (by omega))
      have F2 := HF1.out.put x n
      have PP := fun q => put_pages HF1.out x n q
      generalize putA pg x n L1 = E2 at *
      generalize (putS pg ds x n dn1 L1).1 = dn2 at *
      generalize (putS pg ds x n dn1 L1).2 = L2 at *
      have HF2 := hide F2
      have HPP := hide PP
      clear F2 PP HO4
      go_wp2_with fail
      refine HPT.out.mono ?_
      rintro e w5 ⟨rfl, o5⟩
      have HL3 := hide (listP (Loc.rv.sep (Loc.rv.sep Loc.nought)) o5 (HF2.out.fine (by omega)))
      clear o5 HPT HA
      go_wp2_with fail
      refine HL3.out.mono ?_
      rintro e w6 ⟨v6, rfl, o6⟩
      have hv6 : RunsV w6 v6 (runsOf L2) := by obtain ⟨_, h, _⟩ := o6.mid; exact h
      have hv4 : RunsV w6 v4 (runsOf L1) := by obtain ⟨_, h, _⟩ := o6.drop2.mid; exact h
      have HB6 := hide o6.back
      have HH6 := fun (u : World) (hu : Alike w6 u) (q : Int) (hq : -1000000 ≤ q ∧ q ≤ 1000000) => hide (has23 u v6 (runsOf L2) (hv6.below (hu.below _)) (small_of HF2.out) (by rw [runsOf_length]; have := HF2.out.len; omega) q hq)
      have HH4 := fun (u : World) (hu : Alike w6 u) (q : Int) (hq : -1000000 ≤ q ∧ q ≤ 1000000) => hide (has23 u v4 (runsOf L1) (hv4.below (hu.below _)) (small_of HF1.out) (by rw [runsOf_length]; have := HF1.out.len; omega) q hq)
      have HHH6 := hide HH6
      have HHH4 := hide HH4
      have HRI := fun (u : World) (hu : Alike w6 u) => hide (right24 u v6 (runsOf L2) (hv6.below (hu.below _)) (small_of HF2.out) (gaps_of HF2.out.good) (by rw [runsOf_length]; have := HF2.out.len; omega))
      have HRII := hide HRI
      clear o6 hv6 hv4 HL3 HH6 HH4 HRI
      go_wp2
      go_loopg [22, 23] 101 (fun g r22 r23 wr => ∃ j : Nat, j + g = 101 ∧ r22 = .int .i64 (j : Int) ∧ Alike w6 wr)
      case atStart => exact ⟨0, by omega, rfl, Alike.refl _⟩
      case round =>
        obtain ⟨j, hj, rfl, hal⟩ := hrel
        by_cases hj1 : j = 101
        · subst hj1
          have HA := hide hal
          clear hal HHH6 HHH4 HPP
          go_wp2_with fail
          refine (HRII.out _ HA.out).out.mono ?_
          rintro e w7 ⟨rfl, h7⟩
          have HB7 : Hid (Below w.heap.size w w7) := hide (HB6.out.trans ((HA.out.trans h7).below _))
          clear h7 HA HRII
          go_wp2_with fail
          refine (HAW _).out.mono ?_
          rintro e w8 ⟨rfl, h8⟩
          have HB8 := hide (HB7.out.trans (h8.mono HB7.out.size))
          clear h8
          go_wp2
          go_ret
          exact ⟨rfl, HB8.out⟩
        · have hj2 : j < 101 := by omega
          have dj : decide ((j : Int) < 101) = true := by simp; omega
          obtain ⟨t1, t2⟩ := HPP.out (j : Int)
          have C4 := HHH6.out wr hal (j : Int) (by omega)
          have C2 := fun (u : World) (hu : Alike w6 u) => HHH4.out u hu (j : Int) (by omega)
          have g4 := has_fr (L := L2) (j : Int)
          have g2 := has_fr (L := L1) (j : Int)
          have CC2 := hide C2
          have HA := hide hal
          clear C2 hal
          generalize hasB (runsOf L2) (j : Int) = bn at *
          generalize hasB (runsOf L1) (j : Int) = bw at *
          rw [← g4, ← g2] at t1
          rw [← g2] at t2
          by_cases qE : E2 = 0
          · have dE1 : (E2 == 0) = true := by simp [qE]
            have dE2 : decide (E2 = 0) = true := by simp [qE]
            by_cases qL : x ≤ (j : Int)
            · have dL : decide (x ≤ (j : Int)) = true := by simp [qL]
              by_cases qH : (j : Int) < x + n
              · have dH : decide ((j : Int) < x + n) = true := by simp [qH]
                have tt : E2 = 0 ∧ x ≤ (j : Int) ∧ (j : Int) < x + n := ⟨qE, qL, qH⟩
                have eb : bw = false ∧ bn = true := by
                  have u : bw = false := by cases bw with | true => exact absurd rfl (t2 tt) | false => rfl
                  exact ⟨u, t1.2 (.inr tt)⟩
                obtain ⟨rfl, rfl⟩ := eb
                clear t1 t2 g4 g2 tt qE
                go_wp2_with fail
                refine C4.out.mono ?_
                rintro e u1 ⟨rfl, h1⟩
                have K1 := CC2.out u1 (HA.out.trans h1)
                have HU1 := hide (HA.out.trans h1)
                clear h1 C4
                go_wp2_with fail
                refine K1.out.mono ?_
                rintro e u2 ⟨rfl, h2⟩
                have HU2 := hide (HU1.out.trans h2)
                clear h2 K1
                have K2 := CC2.out u2 HU2.out
                go_wp2_with fail
                refine K2.out.mono ?_
                rintro e u3 ⟨rfl, h3⟩
                have HU3 := hide (HU2.out.trans h3)
                clear h3 K2
                go_wp2
                go_roundg (100 - j)
                case measure => omega
                case rel => exact ⟨j + 1, by omega, by simp, HU3.out⟩
              · have dH : decide ((j : Int) < x + n) = false := by simp; omega
                cases hbw : bw with
                | true =>
                  have eb : bn = true := by rw [hbw] at t1; exact t1.2 (.inl rfl)
                  subst eb
                  subst hbw
                  clear t1 t2 g4 g2 qE
                  go_wp2_with fail
                  refine C4.out.mono ?_
                  rintro e u1 ⟨rfl, h1⟩
                  have K1 := CC2.out u1 (HA.out.trans h1)
                  have HU1 := hide (HA.out.trans h1)
                  clear h1 C4
                  go_wp2_with fail
                  refine K1.out.mono ?_
                  rintro e u2 ⟨rfl, h2⟩
                  have HU2 := hide (HU1.out.trans h2)
                  clear h2 K1
                  go_wp2
                  go_roundg (100 - j)
                  case measure => omega
                  case rel => exact ⟨j + 1, by omega, by simp, HU2.out⟩
                | false =>
                  have eb : bn = false := by rw [hbw] at t1; cases bn with | true => exact ((t1.1 rfl).elim (fun u => by simp at u) (fun u => (qH u.2.2).elim)) | false => rfl
                  subst eb
                  subst hbw
                  clear t1 t2 g4 g2 qE
                  go_wp2_with fail
                  refine C4.out.mono ?_
                  rintro e u1 ⟨rfl, h1⟩
                  have K1 := CC2.out u1 (HA.out.trans h1)
                  have HU1 := hide (HA.out.trans h1)
                  clear h1 C4
                  go_wp2_with fail
                  refine K1.out.mono ?_
                  rintro e u2 ⟨rfl, h2⟩
                  have HU2 := hide (HU1.out.trans h2)
                  clear h2 K1
                  go_wp2
                  go_roundg (100 - j)
                  case measure => omega
                  case rel => exact ⟨j + 1, by omega, by simp, HU2.out⟩
            · have dL : decide (x ≤ (j : Int)) = false := by simp; omega
              cases hbw : bw with
              | true =>
                have eb : bn = true := by rw [hbw] at t1; exact t1.2 (.inl rfl)
                subst eb
                subst hbw
                clear t1 t2 g4 g2 qE
                go_wp2_with fail
                refine C4.out.mono ?_
                rintro e u1 ⟨rfl, h1⟩
                have K1 := CC2.out u1 (HA.out.trans h1)
                have HU1 := hide (HA.out.trans h1)
                clear h1 C4
                go_wp2_with fail
                refine K1.out.mono ?_
                rintro e u2 ⟨rfl, h2⟩
                have HU2 := hide (HU1.out.trans h2)
                clear h2 K1
                go_wp2
                go_roundg (100 - j)
                case measure => omega
                case rel => exact ⟨j + 1, by omega, by simp, HU2.out⟩
              | false =>
                have eb : bn = false := by rw [hbw] at t1; cases bn with | true => exact ((t1.1 rfl).elim (fun u => by simp at u) (fun u => (qL u.2.1).elim)) | false => rfl
                subst eb
                subst hbw
                clear t1 t2 g4 g2 qE
                go_wp2_with fail
                refine C4.out.mono ?_
                rintro e u1 ⟨rfl, h1⟩
                have K1 := CC2.out u1 (HA.out.trans h1)
                have HU1 := hide (HA.out.trans h1)
                clear h1 C4
                go_wp2_with fail
                refine K1.out.mono ?_
                rintro e u2 ⟨rfl, h2⟩
                have HU2 := hide (HU1.out.trans h2)
                clear h2 K1
                go_wp2
                go_roundg (100 - j)
                case measure => omega
                case rel => exact ⟨j + 1, by omega, by simp, HU2.out⟩
          · have dE1 : (E2 == 0) = false := by simp [qE]
            have dE2 : decide (E2 = 0) = false := by simp [qE]
            cases hbw : bw with
            | true =>
              have eb : bn = true := by rw [hbw] at t1; exact t1.2 (.inl rfl)
              subst eb
              subst hbw
              clear t1 t2 g4 g2
              go_wp2_with fail
              refine C4.out.mono ?_
              rintro e u1 ⟨rfl, h1⟩
              have K1 := CC2.out u1 (HA.out.trans h1)
              have HU1 := hide (HA.out.trans h1)
              clear h1 C4
              go_wp2_with fail
              refine K1.out.mono ?_
              rintro e u2 ⟨rfl, h2⟩
              have HU2 := hide (HU1.out.trans h2)
              clear h2 K1
              go_wp2
              go_roundg (100 - j)
              case measure => omega
              case rel => exact ⟨j + 1, by omega, by simp, HU2.out⟩
            | false =>
              have eb : bn = false := by rw [hbw] at t1; cases bn with | true => exact ((t1.1 rfl).elim (fun u => by simp at u) (fun u => (qE u.1).elim)) | false => rfl
              subst eb
              subst hbw
              clear t1 t2 g4 g2
              go_wp2_with fail
              refine C4.out.mono ?_
              rintro e u1 ⟨rfl, h1⟩
              have K1 := CC2.out u1 (HA.out.trans h1)
              have HU1 := hide (HA.out.trans h1)
              clear h1 C4
              go_wp2_with fail
              refine K1.out.mono ?_
              rintro e u2 ⟨rfl, h2⟩
              have HU2 := hide (HU1.out.trans h2)
              clear h2 K1
              go_wp2
              go_roundg (100 - j)
              case measure => omega
              case rel => exact ⟨j + 1, by omega, by simp, HU2.out⟩
    · have hj2 : j < 101 := by omega
      have dj : decide ((j : Int) < 101) = true := by simp; omega
      obtain ⟨t1, t2⟩ := HTP.out (j : Int)
      have C4 := HHH4.out wr hal (j : Int) (by omega)
      have C2 := fun (u : World) (hu : Alike w4 u) => HHH2.out u hu (j : Int) (by omega)
      have g4 := has_fr (L := L1) (j : Int)
      have g2 := has_fr (L := L) (j : Int)
      have CC2 := hide C2
      have HA := hide hal
      clear C2 hal
      generalize hasB (runsOf L1) (j : Int) = bn at *
      generalize hasB (runsOf L) (j : Int) = bw at *
      rw [← g4, ← g2] at t1
      rw [← g2] at t2
      by_cases qE : E = 0
      · have dE1 : (E == 0) = true := by simp [qE]
        have dE2 : decide (E = 0) = true := by simp [qE]
        by_cases qL : y ≤ (j : Int)
        · have dL : decide (y ≤ (j : Int)) = true := by simp [qL]
          by_cases qH : (j : Int) < y + n
          · have dH : decide ((j : Int) < y + n) = true := by simp [qH]
            have tt : E = 0 ∧ y ≤ (j : Int) ∧ (j : Int) < y + n := ⟨qE, qL, qH⟩
            have eb : bw = true ∧ bn = false := by
              have u : bw = true := t2 tt
              refine ⟨u, ?_⟩
              cases bn with
              | true => exact absurd tt (t1.1 rfl).2
              | false => rfl
            obtain ⟨rfl, rfl⟩ := eb
            clear t1 t2 g4 g2 tt qE
            go_wp2_with fail
            refine C4.out.mono ?_
            rintro e u1 ⟨rfl, h1⟩
            have K1 := CC2.out u1 (HA.out.trans h1)
            have HU1 := hide (HA.out.trans h1)
            clear h1 C4
            go_wp2_with fail
            refine K1.out.mono ?_
            rintro e u2 ⟨rfl, h2⟩
            have HU2 := hide (HU1.out.trans h2)
            clear h2 K1
            have K2 := CC2.out u2 HU2.out
            go_wp2_with fail
            refine K2.out.mono ?_
            rintro e u3 ⟨rfl, h3⟩
            have HU3 := hide (HU2.out.trans h3)
            clear h3 K2
            go_wp2
            go_roundg (100 - j)
            case measure => omega
            case rel => exact ⟨j + 1, by omega, by simp, HU3.out⟩
          · have dH : decide ((j : Int) < y + n) = false := by simp; omega
            cases hbw : bw with
            | true =>
              have eb : bn = true := by rw [hbw] at t1; exact t1.2 ⟨rfl, fun u => qH u.2.2⟩
              subst eb
              subst hbw
              clear t1 t2 g4 g2 qE
              go_wp2_with fail
              refine C4.out.mono ?_
              rintro e u1 ⟨rfl, h1⟩
              have K1 := CC2.out u1 (HA.out.trans h1)
              have HU1 := hide (HA.out.trans h1)
              clear h1 C4
              go_wp2_with fail
              refine K1.out.mono ?_
              rintro e u2 ⟨rfl, h2⟩
              have HU2 := hide (HU1.out.trans h2)
              clear h2 K1
              go_wp2
              go_roundg (100 - j)
              case measure => omega
              case rel => exact ⟨j + 1, by omega, by simp, HU2.out⟩
            | false =>
              have eb : bn = false := by rw [hbw] at t1; cases bn with | true => exact absurd (t1.1 rfl).1 (by simp) | false => rfl
              subst eb
              subst hbw
              clear t1 t2 g4 g2 qE
              go_wp2_with fail
              refine C4.out.mono ?_
              rintro e u1 ⟨rfl, h1⟩
              have K1 := CC2.out u1 (HA.out.trans h1)
              have HU1 := hide (HA.out.trans h1)
              clear h1 C4
              go_wp2_with fail
              refine K1.out.mono ?_
              rintro e u2 ⟨rfl, h2⟩
              have HU2 := hide (HU1.out.trans h2)
              clear h2 K1
              go_wp2
              go_roundg (100 - j)
              case measure => omega
              case rel => exact ⟨j + 1, by omega, by simp, HU2.out⟩
        · have dL : decide (y ≤ (j : Int)) = false := by simp; omega
          cases hbw : bw with
          | true =>
            have eb : bn = true := by rw [hbw] at t1; exact t1.2 ⟨rfl, fun u => qL u.2.1⟩
            subst eb
            subst hbw
            clear t1 t2 g4 g2 qE
            go_wp2_with fail
            refine C4.out.mono ?_
            rintro e u1 ⟨rfl, h1⟩
            have K1 := CC2.out u1 (HA.out.trans h1)
            have HU1 := hide (HA.out.trans h1)
            clear h1 C4
            go_wp2_with fail
            refine K1.out.mono ?_
            rintro e u2 ⟨rfl, h2⟩
            have HU2 := hide (HU1.out.trans h2)
            clear h2 K1
            go_wp2
            go_roundg (100 - j)
            case measure => omega
            case rel => exact ⟨j + 1, by omega, by simp, HU2.out⟩
          | false =>
            have eb : bn = false := by rw [hbw] at t1; cases bn with | true => exact absurd (t1.1 rfl).1 (by simp) | false => rfl
            subst eb
            subst hbw
            clear t1 t2 g4 g2 qE
            go_wp2_with fail
            refine C4.out.mono ?_
            rintro e u1 ⟨rfl, h1⟩
            have K1 := CC2.out u1 (HA.out.trans h1)
            have HU1 := hide (HA.out.trans h1)
            clear h1 C4
            go_wp2_with fail
            refine K1.out.mono ?_
            rintro e u2 ⟨rfl, h2⟩
            have HU2 := hide (HU1.out.trans h2)
            clear h2 K1
            go_wp2
            go_roundg (100 - j)
            case measure => omega
            case rel => exact ⟨j + 1, by omega, by simp, HU2.out⟩
      · have dE1 : (E == 0) = false := by simp [qE]
        have dE2 : decide (E = 0) = false := by simp [qE]
        cases hbw : bw with
        | true =>
          have eb : bn = true := by rw [hbw] at t1; exact t1.2 ⟨rfl, fun u => qE u.1⟩
          subst eb
          subst hbw
          clear t1 t2 g4 g2
          go_wp2_with fail
          refine C4.out.mono ?_
          rintro e u1 ⟨rfl, h1⟩
          have K1 := CC2.out u1 (HA.out.trans h1)
          have HU1 := hide (HA.out.trans h1)
          clear h1 C4
          go_wp2_with fail
          refine K1.out.mono ?_
          rintro e u2 ⟨rfl, h2⟩
          have HU2 := hide (HU1.out.trans h2)
          clear h2 K1
          go_wp2
          go_roundg (100 - j)
          case measure => omega
          case rel => exact ⟨j + 1, by omega, by simp, HU2.out⟩
        | false =>
          have eb : bn = false := by rw [hbw] at t1; cases bn with | true => exact absurd (t1.1 rfl).1 (by simp) | false => rfl
          subst eb
          subst hbw
          clear t1 t2 g4 g2
          go_wp2_with fail
          refine C4.out.mono ?_
          rintro e u1 ⟨rfl, h1⟩
          have K1 := CC2.out u1 (HA.out.trans h1)
          have HU1 := hide (HA.out.trans h1)
          clear h1 C4
          go_wp2_with fail
          refine K1.out.mono ?_
          rintro e u2 ⟨rfl, h2⟩
          have HU2 := hide (HU1.out.trans h2)
          clear h2 K1
          go_wp2
          go_roundg (100 - j)
          case measure => omega
          case rel => exact ⟨j + 1, by omega, by simp, HU2.out⟩

set_option maxRecDepth 100000 in
theorem lifted (os : Os) (started : os.Started) (H : Type) (enc : TypeId × Value → H) :
    ReturnsInHanded {} Try.checked os 6 .any (Rows.runsPagesSpec.pre6 enc Try.prog Try.f6 Rows.runsPagesRow.domain false) (Rows.runsPagesSpec.post enc Try.prog Try.f6 false true false false) := by
  refine returnsInHanded_of_change (C := Try.checked) own started (by kernel_rfl) Try.func6
    (ChangeSpec.witness6 (enc := enc) (C := Try.checked) false ⟨#[], #[.int .u8 0, .slice none 0 0, .slice none 0 0, .int .u8 0, .int .u8 0], []⟩ 8 (by kernel_rfl) (by kernel_rfl) (by kernel_rfl) (by kernel_rfl)) ?_
  intro W base args ds gs before hval0 hW _ _
  have hval : ∀ (j : Nat) t v, Try.f6.params[j]? = some t → args[j]? = some v → Value.okWide Try.prog W .any base t v := hval0
  have hW' := hW
  obtain ⟨p, q, hA0, hV, rfl, hfz, hnd⟩ := hW
  have hA : DataW.TrodAll enc Try.prog W 0 (fun _ => true) true Try.f6.params.toList args.toList ds p := hA0
  rw [Try.params6] at hA hval
  obtain ⟨v0, vs0, d0, ds0, p0, q0, hargs, rfl, rfl, h0, r0⟩ := trodAll_cons hA
  obtain ⟨v1, vs1, d1, ds1, p1, q1, rfl, rfl, rfl, h1, r1⟩ := trodAll_cons r0
  obtain ⟨v2, vs2, d2, ds2, p2, q2, rfl, rfl, rfl, h2, r2⟩ := trodAll_cons r1
  obtain ⟨v3, vs3, d3, ds3, p3, q3, rfl, rfl, rfl, h3, r3⟩ := trodAll_cons r2
  obtain ⟨v4, vs4, d4, ds4, p4, q4, rfl, rfl, rfl, h4, r4⟩ := trodAll_cons r3
  obtain ⟨rfl, rfl, rfl⟩ := trodAll_nil r4
  obtain rfl : args = #[v0, v1, v2, v3, v4] := by cases args; simp_all
  obtain ⟨rfl, rfl⟩ := trodVars_none hV
  obtain ⟨a0, rfl, rfl, rfl, w0⟩ := open_int Try.underlying5 (hval 0 5 v0 rfl rfl) h0
  have h1k := h1
  have lt1 : ∀ x ∈ p1, x.block < W.heap.size := fun x hx => hW'.lt x (by simp [hx])
  obtain ⟨l1_0, l1_1, l1_2, rfl, f1_0, f1_1, f1_2⟩ := open_bytes (hval 1 22 v1 rfl rfl) h1
  have h2k := h2
  have lt2 : ∀ x ∈ p2, x.block < W.heap.size := fun x hx => hW'.lt x (by simp [hx])
  obtain ⟨l2_0, l2_1, l2_2, rfl, f2_0, f2_1, f2_2⟩ := open_bytes (hval 2 22 v2 rfl rfl) h2
  obtain ⟨a3, rfl, rfl, rfl, w3⟩ := open_int Try.underlying5 (hval 3 5 v3 rfl rfl) h3
  obtain ⟨a4, rfl, rfl, rfl, w4⟩ := open_int Try.underlying5 (hval 4 5 v4 rfl rfl) h4
  clear hA0 hval0
  obtain ⟨x0, hx0, rfl⟩ := u8_nat w0
  obtain ⟨x3, hx3, rfl⟩ := u8_nat w3
  obtain ⟨x4, hx4, rfl⟩ := u8_nat w4
  refine (walk x0 hx0 l1_0 l1_1 l1_2 f1_0 f1_1 l2_0 l2_1 l2_2 f2_0 f2_1 x3 hx3 x4 hx4 W f1_2 f2_2).mono fun e W' ⟨he, bel⟩ => ?_
  subst he
  exact ⟨_, rfl, _, _, _, [], _, [], hW', trodAll_mk1 (shut_bool Try.underlying4 _), (trodAll_cons_mk (shut_int Try.underlying5 w0) (trodAll_cons_mk (Below.trod laidOut (by kernel_rfl) (of_decide_eq_true (by kernel_rfl)) h1k bel lt1) (trodAll_cons_mk (Below.trod laidOut (by kernel_rfl) (of_decide_eq_true (by kernel_rfl)) h2k bel lt2) (trodAll_cons_mk (shut_int Try.underlying5 w3) (trodAll_cons_mk (shut_int Try.underlying5 w4) trodAll_mk0))))), rfl, bel.frame _, fun h => by cases h⟩

end Go.Proofs.Ytpngbajahpnlgaa.runsPages
namespace Go.Proofs.Ytpngbajahpnlgaa

theorem runsPages_holds : Rows.RunsPagesSaid :=
  OpenClaim.holds_of_wide 6 Try.f6 rfl rfl rfl rfl rfl rfl rfl ⟨rfl, rfl, rfl, rfl, rfl⟩ rfl rfl rfl rfl rfl (by kernel_rfl) Try.func6 (by kernel_rfl)
    (of_decide_eq_true (by kernel_rfl)) (by unfold Func.isWrapper; first | (rw [if_pos (by decide +kernel)]; kernel_rfl) | (rw [if_neg (by decide +kernel)]; exact ⟨rfl, rfl⟩))
    (fun os started H enc _ => runsPages.lifted os started H enc)
end Go.Proofs.Ytpngbajahpnlgaa
