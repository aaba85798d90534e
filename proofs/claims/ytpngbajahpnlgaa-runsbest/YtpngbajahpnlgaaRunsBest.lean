/- What is taken is the front of a run that is long enough; no run that is long enough is shorter, nor one as long lower: the law RunsBest answers true at every input, and its arguments read behind the call as they read before. -/
import Derived.Test.YtpngbajahpnlgaaRunSome
import Derived.Test.YtpngbajahpnlgaaRunHas
namespace Go.Proofs.Ytpngbajahpnlgaa.runsBest
open Go.ChangeShapes Go.WideShapes Go.ChangeAt Go.RowKit

/-- What the best run is, among the runs of the list. -/
theorem best_math {m pg : Nat} {ds : List Nat} {dn : Nat} {L : RL} (hf : Fit m pg ds dn L) {n : Int} {i : It Unit} (hg : fitL n L = some i) :
    (∃ j, j < (runsOf L).length ∧ ((runsOf L).getD j (0, 0)).1 = rA i.1) ∧ ∀ j, j < (runsOf L).length → (((runsOf L).getD j (0, 0)).1 = rA i.1 → ((runsOf L).getD j (0, 0)).2 = rN i.1) ∧
      (n ≤ ((runsOf L).getD j (0, 0)).2 → ¬ ((runsOf L).getD j (0, 0)).2 < rN i.1 ∧ (((runsOf L).getD j (0, 0)).2 = rN i.1 → ¬ ((runsOf L).getD j (0, 0)).1 < rA i.1)) := by
  obtain ⟨q1, q2, q3⟩ := fit_some hf.good.ris hg
  constructor
  · have : (rA i.1, rN i.1) ∈ runsOf L := runsOf_mem.2 ⟨i, q1, rfl⟩
    obtain ⟨j, hj, e⟩ := List.getElem_of_mem this
    exact ⟨j, hj, by rw [List.getD_eq_getElem?_getD, List.getElem?_eq_getElem hj]; simp [e]⟩
  · intro j hj
    obtain ⟨i', hi', e⟩ := lst_get hj
    rw [e]
    simp only
    constructor
    · intro h
      by_cases hne : i'.1 = i.1
      · rw [hne]
      · have := hf.good.sep i' hi' i q1 hne
        have := hf.good.ran i' hi'; have := hf.good.ran i q1
        omega
    · intro h
      have := q3 i' hi' h
      constructor <;> omega

set_option maxRecDepth 100000 in
set_option maxHeartbeats 8000000 in
theorem walk (p : Nat) (hp : p < 256) (a1 : Option Addr) (n1 c1 : Nat) (_h11 : n1 ≤ c1) (_h12 : c1 ≤ maxLen) (a2 : Option Addr) (n2 c2 : Nat) (_h21 : n2 ≤ c2) (_h22 : c2 ≤ maxLen) (k : Nat) (hk : k < 256) (w : World)
    (q1 : ∃ f : Nat → Nat, ∀ k, k < n1 → f k < 256 ∧ AtB w a1 k (.int .u8 (f k : Nat))) (q2 : ∃ f : Nat → Nat, ∀ k, k < n2 → f k < 256 ∧ AtB w a2 k (.int .u8 (f k : Nat))) :
    Calls Try.prog 5 #[.int .u8 (p : Int), .slice a1 n1 c1, .slice a2 n2 c2, .int .u8 (k : Int)] w fun e w' => e = .returned (.bool true) ∧ Below w.heap.size w w' := by
  obtain ⟨f1, b1⟩ := q1
  obtain ⟨f2, b2⟩ := q2
  unfold maxLen at _h12 _h22
  have HS := hide (some21 w p hp a1 n1 c1 f1 (by omega) b1 a2 n2 c2 f2 (by omega) b2)
  clear b1 b2 _h11 _h12 _h21 _h22
  generalize 1 + p % 100 = pg at *
  generalize drawsOf f1 (min n1 60) = ds at *
  obtain ⟨n, hn⟩ : ∃ n, (1 : Int) + (k : Int) % 20 = n := ⟨_, rfl⟩
  have hnb : 1 ≤ n ∧ n ≤ 20 := by omega
  have HAW := fun w => hide (awake20 w)
  go_enter Try.func5, Try.ntmps5
  go_wp2_with fail
  refine HS.out.mono ?_
  rintro e w1 ⟨r, dn, L, rfl, o1, hf⟩
  have HF := hide hf
  have HL1 := hide (listP Loc.nought o1 (hf.fine (by omega)))
  clear o1 hf HS
  go_wp2_with fail
  refine HL1.out.mono ?_
  rintro e w2 ⟨v, rfl, o2⟩
  have HTK := hide (takeP (Loc.rv.sep Loc.nought) o2 (HF.out.fine (by omega)) n)
  clear o2 HL1
  cases hg : fitL n L with
  | none =>
    have HSH : Hid (∀ j, j < (runsOf L).length → ((runsOf L).getD j (0, 0)).2 < n) := hide (fun j hj => by
      obtain ⟨i', hi', e⟩ := lst_get hj
      rw [e]; exact fit_none hg i' hi')
    obtain ⟨t1, t2⟩ := take_none hnb.1 hg ds dn
    rw [t1, t2] at HTK
    simp only at HTK
    clear t1 t2 hg
    go_wp2_with fail
    refine HTK.out.mono ?_
    rintro e w3 ⟨rfl, o3⟩
    have hv : RunsV w3 v (runsOf L) := by obtain ⟨_, h, _⟩ := o3.mid; exact h
    obtain ⟨va, vc, rfl, hc⟩ := hv.cells
    have HC := hide hc
    have HB3 := hide o3.back
    have hml : (runsOf L).length ≤ 60 := by rw [runsOf_length]; exact HF.out.len
    have HSM := hide (small_of HF.out)
    generalize runsOf L = l at *
    obtain ⟨m, hm⟩ : ∃ m, l.length = m := ⟨_, rfl⟩
    have HM := hide hm
    rw [hm] at hml ⊢
    clear o3 hv hc hm HTK
    go_wp2
    go_loopg [14, 15, 16] m (fun g r14 r15 r16 wr => ∃ j : Nat, j + g = m ∧ r14 = .int .i64 0 ∧ r15 = .int .i64 (j : Int) ∧ Alike w3 wr)
    case atStart => exact ⟨0, by omega, rfl, rfl, Alike.refl _⟩
    case round =>
      obtain ⟨j, hj, rfl, rfl, hal⟩ := hrel
      by_cases hjm : j = m
      · have d1 : decide ((j : Int) < (m : Int)) = false := by simp; omega
        have d2 : decide (j < m) = false := by simp; omega
        have HB4 : Hid (Below w.heap.size w wr) := hide (HB3.out.trans (hal.below _))
        clear hal hjm HC HSH HSM
        go_wp2_with fail
        refine (HAW _).out.mono ?_
        rintro e w8 ⟨rfl, h8⟩
        have HB8 := hide (HB4.out.trans (h8.mono HB4.out.size))
        clear h8
        go_wp2
        go_ret
        exact ⟨rfl, HB8.out⟩
      · have d1 : decide ((j : Int) < (m : Int)) = true := by simp; omega
        have d2 : decide (j < m) = true := by simp; omega
        obtain ⟨g, rfl, x1, x2⟩ := HC.out j (by rw [HM.out]; omega)
        replace x1 : wr.cell? ⟨g, j * 2, none⟩ = some (.int .i64 (l.getD j (0, 0)).1) := (World.cell?_of_block (a := ⟨g, j * 2, none⟩) (by rw [hal.heap])).trans x1
        replace x2 : wr.cell? ⟨g, j * 2 + 1, none⟩ = some (.int .i64 (l.getD j (0, 0)).2) := (World.cell?_of_block (a := ⟨g, j * 2 + 1, none⟩) (by rw [hal.heap])).trans x2
        have hsm := HSM.out j (by rw [HM.out]; omega)
        have hsh := HSH.out j (by rw [HM.out]; omega)
        have HA := hide hal
        clear hal HC HSM HSH
        generalize (l.getD j (0, 0)).1 = y at *
        generalize (l.getD j (0, 0)).2 = z at *
        have d3 : decide (n ≤ z) = false := by simp; omega
        go_wp2
        go_roundg (m - (j + 1))
        case measure => omega
        case rel => exact ⟨j + 1, by omega, rfl, by simp, HA.out⟩
  | some i0 =>
    obtain ⟨bm1, bm2⟩ := best_math HF.out hg
    have t1 := (take_some hnb.1 hg ds dn).1
    obtain ⟨_, hnN, _⟩ := fit_some HF.out.good.ris hg
    rw [t1] at HTK
    simp only at HTK
    clear t1 hg
    have hra := rA_bd i0.1
    generalize rA i0.1 = y at *
    generalize rN i0.1 = N at *
    go_wp2_with fail
    refine HTK.out.mono ?_
    rintro e w3 ⟨rfl, o3⟩
    have hv : RunsV w3 v (runsOf L) := by obtain ⟨_, h, _⟩ := o3.mid; exact h
    obtain ⟨va, vc, rfl, hc⟩ := hv.cells
    have HC := hide hc
    have HB3 := hide o3.back
    have hml : (runsOf L).length ≤ 60 := by rw [runsOf_length]; exact HF.out.len
    have HSM := hide (small_of HF.out)
    have HBM1 := hide bm1
    have HBM2 := hide bm2
    clear bm1 bm2
    generalize runsOf L = l at *
    obtain ⟨m, hm⟩ : ∃ m, l.length = m := ⟨_, rfl⟩
    have HM := hide hm
    rw [hm] at hml ⊢
    clear o3 hv hc hm HTK
    go_wp2
    go_loopg [14, 15, 16] m (fun g r14 r15 r16 wr => ∃ (j : Nat) (q : Int), j + g = m ∧ r14 = .int .i64 q ∧ r15 = .int .i64 (j : Int) ∧ Alike w3 wr ∧ (((∀ i, i < j → (l.getD i (0, 0)).1 ≠ y) ∧ 0 ≤ q ∧ q ≤ (j : Int)) ∨ (-1000 ≤ q ∧ q ≤ -1000 + (j : Int))))
    case atStart => exact ⟨0, 0, by omega, rfl, rfl, Alike.refl _, .inl ⟨fun i hi => by omega, by omega, by omega⟩⟩
    case round =>
      obtain ⟨j, q, hj, rfl, rfl, hal, hrel2⟩ := hrel
      by_cases hjm : j = m
      · have d1 : decide ((j : Int) < (m : Int)) = false := by simp; omega
        have d2 : decide (j < m) = false := by simp; omega
        have hq : q < 0 := by
          rcases hrel2 with ⟨u, _, _⟩ | ⟨_, u⟩
          · obtain ⟨i, hi, e⟩ := HBM1.out
            exact absurd e (u i (by rw [HM.out] at hi; omega))
          · omega
        have d3 : decide (q < 0) = true := by simp [hq]
        have HB4 : Hid (Below w.heap.size w wr) := hide (HB3.out.trans (hal.below _))
        clear hal hjm HC HBM1 HBM2 HSM hrel2
        go_wp2_with fail
        refine (HAW _).out.mono ?_
        rintro e w8 ⟨rfl, h8⟩
        have HB8 := hide (HB4.out.trans (h8.mono HB4.out.size))
        clear h8
        go_wp2
        go_ret
        exact ⟨rfl, HB8.out⟩
      · have d1 : decide ((j : Int) < (m : Int)) = true := by simp; omega
        have d2 : decide (j < m) = true := by simp; omega
        obtain ⟨g, rfl, x1, x2⟩ := HC.out j (by rw [HM.out]; omega)
        replace x1 : wr.cell? ⟨g, j * 2, none⟩ = some (.int .i64 (l.getD j (0, 0)).1) := (World.cell?_of_block (a := ⟨g, j * 2, none⟩) (by rw [hal.heap])).trans x1
        replace x2 : wr.cell? ⟨g, j * 2 + 1, none⟩ = some (.int .i64 (l.getD j (0, 0)).2) := (World.cell?_of_block (a := ⟨g, j * 2 + 1, none⟩) (by rw [hal.heap])).trans x2
        have hsm := HSM.out j (by rw [HM.out]; omega)
        have hbm := HBM2.out j (by rw [HM.out]; omega)
        have HA := hide hal
        have hqb : -1000 ≤ q ∧ q ≤ 100 := by rcases hrel2 with ⟨_, u⟩ | u <;> omega
        have HNE : Hid ((l.getD j (0, 0)).1 ≠ y → ∀ d : Int, 0 ≤ d → d ≤ 1 → (((∀ i, i < j + 1 → (l.getD i (0, 0)).1 ≠ y) ∧ 0 ≤ q + d ∧ q + d ≤ ((j + 1 : Nat) : Int)) ∨ (-1000 ≤ q + d ∧ q + d ≤ -1000 + ((j + 1 : Nat) : Int)))) := hide (fun hne d h0 h1 => by
          rcases hrel2 with ⟨u, u1, u2⟩ | ⟨u1, u2⟩
          · refine .inl ⟨fun i hi => ?_, by omega, by omega⟩
            by_cases e : i = j
            · rw [e]; exact hne
            · exact u i (by omega)
          · exact .inr ⟨by omega, by omega⟩)
        clear hal hrel2
        obtain ⟨x, hxe⟩ : ∃ x, (l.getD j (0, 0)).1 = x := ⟨_, rfl⟩
        obtain ⟨z, hze⟩ : ∃ z, (l.getD j (0, 0)).2 = z := ⟨_, rfl⟩
        rw [hxe] at x1 hsm hbm HNE
        rw [hze] at x2 hsm hbm
        have HXE := hide hxe
        have HZE := hide hze
        clear hxe hze
        by_cases k1 : x = y
        · have hzN : z = N := hbm.1 k1
          have d3 : decide (n ≤ z) = true := by simp; omega
          have d4 : (x == y) = true := by simp [k1]
          have d5 : decide (x = y) = true := by simp [k1]
          have d6 : decide (z < n) = false := by simp; omega
          have HZN := hide hzN
          have HK1 := hide k1
          clear hzN hbm k1 HNE
          go_wp2
          go_loopg [16] m (fun g' r16 wr' => ∃ j' : Nat, j' + g' = m ∧ r16 = .int .i64 (j' : Int) ∧ Alike w3 wr')
          case atStart => exact ⟨0, by omega, rfl, HA.out⟩
          case round =>
            clear x1 x2
            obtain ⟨j', hj', rfl, hal'⟩ := hrel
            have HA' := hide hal'
            have x2 : wr.cell? ⟨g, j * 2 + 1, none⟩ = some (.int .i64 z) := by
              obtain ⟨g0, e0, _, y2⟩ := HC.out j (by rw [HM.out]; omega)
              cases e0
              rw [HZE.out] at y2
              exact (World.cell?_of_block (a := ⟨g, j * 2 + 1, none⟩) (by rw [hal'.heap])).trans y2
            by_cases hjm' : j' = m
            · have d1' : decide ((j' : Int) < (m : Int)) = false := by simp; omega
              have d2' : decide (j' < m) = false := by simp; omega
              clear hal' hjm'
              go_wp2
              go_roundg (m - (j + 1))
              case measure => omega
              case rel => exact ⟨j + 1, -1000, by omega, rfl, by simp, HA'.out, .inr ⟨by omega, by omega⟩⟩
            · have d1' : decide ((j' : Int) < (m : Int)) = true := by simp; omega
              have d2' : decide (j' < m) = true := by simp; omega
              obtain ⟨g0, e0, y1, y2⟩ := HC.out j' (by rw [HM.out]; omega)
              cases e0
              replace y1 : wr.cell? ⟨g, j' * 2, none⟩ = some (.int .i64 (l.getD j' (0, 0)).1) := (World.cell?_of_block (a := ⟨g, j' * 2, none⟩) (by rw [hal'.heap])).trans y1
              replace y2 : wr.cell? ⟨g, j' * 2 + 1, none⟩ = some (.int .i64 (l.getD j' (0, 0)).2) := (World.cell?_of_block (a := ⟨g, j' * 2 + 1, none⟩) (by rw [hal'.heap])).trans y2
              have hbm' := (HBM2.out j' (by rw [HM.out]; omega)).2
              have hlt' : j' < m := by omega
              have hlt : j < m := by omega
              clear hal' hjm'
              generalize (l.getD j' (0, 0)).1 = x' at *
              generalize (l.getD j' (0, 0)).2 = z' at *
              rw [← HZN.out] at hbm'
              by_cases kA : n ≤ z'
              · obtain ⟨hB, hC⟩ := hbm' kA
                have e1 : decide (n ≤ z') = true := by simp [kA]
                have e2 : decide (z' < z) = false := by simp; omega
                by_cases kC : z' = z
                · have e3 : (z' == z) = true := by simp [kC]
                  have e4 : decide (z' = z) = true := by simp [kC]
                  have e5 : decide (x' < y) = false := by have := hC kC; simp; omega
                  clear kC hbm' hB hC
                  go_wp2
                  go_quiet (fail)
                  go_wp2
                  go_roundg (m - (j' + 1))
                  case measure => omega
                  case rel => exact ⟨j' + 1, by omega, by simp, HA'.out.trans (Alike.drewN _ _)⟩
                · have e3 : (z' == z) = false := by simp [kC]
                  have e4 : decide (z' = z) = false := by simp [kC]
                  clear kC hbm' hB hC
                  go_wp2
                  go_quiet (fail)
                  go_wp2
                  go_roundg (m - (j' + 1))
                  case measure => omega
                  case rel => exact ⟨j' + 1, by omega, by simp, HA'.out.trans (Alike.drewN _ _)⟩
              · have e1 : decide (n ≤ z') = false := by simp; omega
                clear hbm'
                go_wp2
                go_quiet (fail)
                go_wp2
                go_roundg (m - (j' + 1))
                case measure => omega
                case rel => exact ⟨j' + 1, by omega, by simp, HA'.out.trans (Alike.drewN _ _)⟩
        · have d4 : (x == y) = false := by simp [k1]
          have d5 : decide (x = y) = false := by simp [k1]
          have HN := hide (HNE.out k1)
          clear hbm HC HBM1 HBM2 HSM HNE k1
          by_cases kz : n ≤ z
          · have d3 : decide (n ≤ z) = true := by simp [kz]
            go_wp2
            go_roundg (m - (j + 1))
            case measure => omega
            case rel => exact ⟨j + 1, q + 1, by omega, rfl, by simp, HA.out, HN.out 1 (by omega) (by omega)⟩
          · have d3 : decide (n ≤ z) = false := by simp; omega
            go_wp2
            go_roundg (m - (j + 1))
            case measure => omega
            case rel => exact ⟨j + 1, q, by omega, rfl, by simp, HA.out, by have := HN.out 0 (by omega) (by omega); simpa using this⟩

set_option maxRecDepth 100000 in
theorem lifted (os : Os) (started : os.Started) (H : Type) (enc : TypeId × Value → H) :
    ReturnsInHanded {} Try.checked os 5 .any (Rows.runsBestSpec.pre6 enc Try.prog Try.f5 Rows.runsBestRow.domain false) (Rows.runsBestSpec.post enc Try.prog Try.f5 false true false false) := by
  refine returnsInHanded_of_change (C := Try.checked) own started (by kernel_rfl) Try.func5
    (ChangeSpec.witness6 (enc := enc) (C := Try.checked) false ⟨#[], #[.int .u8 0, .slice none 0 0, .slice none 0 0, .int .u8 0], []⟩ 8 (by kernel_rfl) (by kernel_rfl) (by kernel_rfl) (by kernel_rfl)) ?_
  intro W base args ds gs before hval0 hW _ _
  have hval : ∀ (j : Nat) t v, Try.f5.params[j]? = some t → args[j]? = some v → Value.okWide Try.prog W .any base t v := hval0
  have hW' := hW
  obtain ⟨p, q, hA0, hV, rfl, hfz, hnd⟩ := hW
  have hA : DataW.TrodAll enc Try.prog W 0 (fun _ => true) true Try.f5.params.toList args.toList ds p := hA0
  rw [Try.params5] at hA hval
  obtain ⟨v0, vs0, d0, ds0, p0, q0, hargs, rfl, rfl, h0, r0⟩ := trodAll_cons hA
  obtain ⟨v1, vs1, d1, ds1, p1, q1, rfl, rfl, rfl, h1, r1⟩ := trodAll_cons r0
  obtain ⟨v2, vs2, d2, ds2, p2, q2, rfl, rfl, rfl, h2, r2⟩ := trodAll_cons r1
  obtain ⟨v3, vs3, d3, ds3, p3, q3, rfl, rfl, rfl, h3, r3⟩ := trodAll_cons r2
  obtain ⟨rfl, rfl, rfl⟩ := trodAll_nil r3
  obtain rfl : args = #[v0, v1, v2, v3] := by cases args; simp_all
  obtain ⟨rfl, rfl⟩ := trodVars_none hV
  obtain ⟨a0, rfl, rfl, rfl, w0⟩ := open_int Try.underlying5 (hval 0 5 v0 rfl rfl) h0
  have h1k := h1
  have lt1 : ∀ x ∈ p1, x.block < W.heap.size := fun x hx => hW'.lt x (by simp [hx])
  obtain ⟨l1_0, l1_1, l1_2, rfl, f1_0, f1_1, f1_2⟩ := open_bytes (hval 1 22 v1 rfl rfl) h1
  have h2k := h2
  have lt2 : ∀ x ∈ p2, x.block < W.heap.size := fun x hx => hW'.lt x (by simp [hx])
  obtain ⟨l2_0, l2_1, l2_2, rfl, f2_0, f2_1, f2_2⟩ := open_bytes (hval 2 22 v2 rfl rfl) h2
  obtain ⟨a3, rfl, rfl, rfl, w3⟩ := open_int Try.underlying5 (hval 3 5 v3 rfl rfl) h3
  clear hA0 hval0
  obtain ⟨x0, hx0, rfl⟩ := u8_nat w0
  obtain ⟨x3, hx3, rfl⟩ := u8_nat w3
  refine (walk x0 hx0 l1_0 l1_1 l1_2 f1_0 f1_1 l2_0 l2_1 l2_2 f2_0 f2_1 x3 hx3 W f1_2 f2_2).mono fun e W' ⟨he, bel⟩ => ?_
  subst he
  exact ⟨_, rfl, _, _, _, [], _, [], hW', trodAll_mk1 (shut_bool Try.underlying4 _), (trodAll_cons_mk (shut_int Try.underlying5 w0) (trodAll_cons_mk (Below.trod laidOut (by kernel_rfl) (of_decide_eq_true (by kernel_rfl)) h1k bel lt1) (trodAll_cons_mk (Below.trod laidOut (by kernel_rfl) (of_decide_eq_true (by kernel_rfl)) h2k bel lt2) (trodAll_cons_mk (shut_int Try.underlying5 w3) trodAll_mk0)))), rfl, bel.frame _, fun h => by cases h⟩

end Go.Proofs.Ytpngbajahpnlgaa.runsBest
namespace Go.Proofs.Ytpngbajahpnlgaa

theorem runsBest_holds : Rows.RunsBestSaid :=
  OpenClaim.holds_of_wide 5 Try.f5 rfl rfl rfl rfl rfl rfl rfl ⟨rfl, rfl, rfl, rfl, rfl⟩ rfl rfl rfl rfl rfl (by kernel_rfl) Try.func5 (by kernel_rfl)
    (of_decide_eq_true (by kernel_rfl)) (by unfold Func.isWrapper; first | (rw [if_pos (by decide +kernel)]; kernel_rfl) | (rw [if_neg (by decide +kernel)]; exact ⟨rfl, rfl⟩))
    (fun os started H enc _ => runsBest.lifted os started H enc)
end Go.Proofs.Ytpngbajahpnlgaa
