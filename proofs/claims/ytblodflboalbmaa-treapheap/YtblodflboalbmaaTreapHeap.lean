/- Of each key all that stand below it on the left are less, on the right greater, and of no greater draw, nor, of the same one, a lesser key: the law TreapHeap answers true at every input, and its arguments read behind the call as they read before. -/
import Derived.Test.YtblodflboalbmaaTreUo
import Derived.Test.YtblodflboalbmaaTreOpen
import Derived.Test.YtblodflboalbmaaTreHeapMath
namespace Go.Proofs.Ytblodflboalbmaa.treapHeap
open Go.ChangeShapes Go.WideShapes Go.ChangeAt Go.RowKit

/-- Values are draws. -/
def Dr (L : List (It Nat)) : Prop := ∀ i ∈ L, i.2.2 = i.2.1

/-- Was one of those between greater? -/
def Rg (s : List (Int × Nat)) (k q : Nat) : Prop := ∃ j, k < j ∧ j < q ∧ nk s k < nk s j
open Classical in
noncomputable def rg (s : List (Int × Nat)) (k q : Nat) : Bool := decide (Rg s k q)
theorem rg_none (s : List (Int × Nat)) (k : Nat) : rg s k (k + 1) = false := by
  have : ¬ Rg s k (k + 1) := fun ⟨j, h1, h2, _⟩ => by omega
  simp [rg, this]
theorem rg_next {s : List (Int × Nat)} {k q : Nat} (hkq : k < q) (h : ∀ j, k < j → j < q → nk s k < nk s j → nk s k < nk s q) : rg s k (q + 1) = decide (nk s k < nk s q) := by
  unfold rg
  rw [decide_eq_decide]
  constructor
  · rintro ⟨j, h1, h2, h3⟩
    rcases Nat.lt_or_ge j q with hj | hj
    · exact h j h1 hj h3
    · obtain rfl : j = q := by omega
      exact h3
  · exact fun h => ⟨q, hkq, by omega, h⟩
theorem rg_true {s : List (Int × Nat)} {k q : Nat} (h : rg s k q = true) : ∃ j, k < j ∧ j < q ∧ nk s k < nk s j := by
  have : Rg s k q := by simpa [rg] using h
  exact this

set_option maxHeartbeats 4000000 in
set_option maxRecDepth 100000 in
theorem walk (ao : Option Addr) (len cap : Nat) (hlc : len ≤ cap) (hcm : cap ≤ maxLen) (ao2 : Option Addr) (len2 cap2 : Nat) (hlc2 : len2 ≤ cap2) (hcm2 : cap2 ≤ maxLen) (w : World)
    (hf : ∃ f : Nat → Int, ∀ k, k < len → (-9223372036854775808 ≤ f k ∧ f k ≤ 9223372036854775807) ∧ At w ao k (.int .i64 (f k))) (hg : ∃ f : Nat → Nat, ∀ k, k < len2 → f k < 4294967296 ∧ At w ao2 k (.int .u32 (f k : Int))) :
    Calls Try.prog 5 #[.slice ao len cap, .slice ao2 len2 cap2] w fun e w' => e = .returned (.bool true) ∧ Below w.heap.size w w' := by
  obtain ⟨f, hf⟩ := hf
  obtain ⟨f2, hg⟩ := hg
  have HF := hide hf
  have HG := hide hg
  have hlen : len ≤ 9223372036854775807 := by unfold maxLen at hcm; omega
  have hlen2 : len2 ≤ 9223372036854775807 := by unfold maxLen at hcm2; omega
  clear hf hcm hlc hg hcm2 hlc2
  go_enter Try.func5, Try.ntmps5
  go_wp2_with fail
  refine (newOU w).mono ?_
  rintro x w1 ⟨rfl, h1⟩
  have H1 := hide h1
  clear h1
  go_upto_block 0 with fail
  go_cut [6, 7, 8] from 20 to 56 (fun _ _ _ wc => Hid (∃ L, L.length ≤ 80 ∧ Dr L ∧ OneU (fun x => w.heap.size ≤ x) w wc w.heap.size L))
  case first =>
    go_wp2_with fail
    go_loopw [6] (fun i wr => ∃ k : Nat, k ≤ 80 ∧ i = .int .i64 (k : Int) ∧ Hid (∃ L, L.length ≤ k ∧ Dr L ∧ OneU (fun x => w.heap.size ≤ x) w wr w.heap.size L)) (fun i _ => 80 - (intOf i).toNat)
    case atStart => exact ⟨0, Nat.zero_le _, rfl, ⟨[], Nat.le_refl _, (by unfold Dr; simp), H1.out⟩⟩
    case round =>
      obtain ⟨k, hk, rfl, hh⟩ := hrel
      clear H1
      by_cases hlt : k < len ∧ k < len2 ∧ k < 80
      · obtain ⟨hl1, hl2, hl3⟩ := hlt
        obtain ⟨L, hL, hdr, ho⟩ := hh.out
        obtain ⟨b, o, rfl, hc⟩ := ((HF.out k hl1).2).below ho.back
        obtain ⟨b2, o2, rfl, hc2⟩ := ((HG.out k hl2).2).below ho.back
        have hg32 := (HG.out k hl2).1
        have hbw : b < w.heap.size := by obtain ⟨_, _, e, h, _⟩ := (HF.out k hl1).2; cases e; exact h
        obtain ⟨y, hy⟩ : ∃ y, f k = y := ⟨_, rfl⟩
        obtain ⟨dd, hdd⟩ : ∃ dd, f2 k % 16 = dd := ⟨_, rfl⟩
        have hd16 : ((f2 k : Int)) % 16 = (dd : Int) := by omega
        have hd32 : dd < 16 := by omega
        rw [hy] at hc
        generalize f2 k = z at *
        have HLN := hide (lenOU ho)
        have HL := hide hL
        have HO := hide ho
        have HDR := hide hdr
        obtain ⟨N, hN⟩ : ∃ N, L.length = N := ⟨_, rfl⟩
        have HN := hide hN
        rw [hN] at HLN
        have hN80 : N ≤ 80 := by omega
        cases hgl : getL y L with
        | none =>
          have HP := hide (putYesOU ho y dd dd hgl (by omega))
          have HDP : Hid (Dr (insL y dd dd L)) := hide (fun i hi => by
            rcases insL_mem.1 hi with rfl | hi
            · rfl
            · exact hdr i hi)
          clear hh ho hL hdr hgl hy hdd hN
          go_wp2_with fail
          refine HLN.out.mono ?_
          rintro x w3 ⟨rfl, hw3⟩
          rw [hw3]
          clear hw3 w3
          go_wp2_with fail
          refine HP.out.mono ?_
          rintro x w3 ⟨rfl, h3⟩
          have HL3 := hide (lenOU h3)
          rw [insL_length, HN.out] at HL3
          have H3 := hide h3
          clear h3
          go_wp2_with fail
          refine HL3.out.mono ?_
          rintro x w4 ⟨rfl, hw4⟩
          rw [hw4]
          clear hw4 w4
          go_wp2
          go_roundw
          case rel => exact ⟨k + 1, by omega, by go_num, ⟨_, by rw [insL_length]; have := HL.out; omega, HDP.out, H3.out⟩⟩
          case measure => simp [intOf]; omega
        | some i0 =>
          have HP := hide (putNoOU ho y dd dd i0 hgl)
          clear hh ho hL hdr hgl hy hdd hN
          go_wp2_with fail
          refine HLN.out.mono ?_
          rintro x w3 ⟨rfl, hw3⟩
          rw [hw3]
          clear hw3 w3
          go_wp2_with fail
          refine HP.out.mono ?_
          rintro x w3 ⟨rfl, h3⟩
          have HL3 := hide (lenOU h3)
          rw [HN.out] at HL3
          have H3 := hide h3
          have hne : ((N : Int) == (N : Int) + 1) = false := by rw [beq_eq_false_iff_ne]; omega
          clear h3
          go_wp2_with fail
          refine HL3.out.mono ?_
          rintro x w4 ⟨rfl, hw4⟩
          rw [hw4]
          clear hw4 w4
          go_wp2
          go_roundw
          case rel => exact ⟨k + 1, by omega, by go_num, ⟨L, by have := HL.out; omega, HDR.out, H3.out⟩⟩
          case measure => simp [intOf]; omega
      · have hx : ¬ k < len ∨ (k < len ∧ ¬ k < len2) ∨ (k < len ∧ k < len2 ∧ ¬ k < 80) := by omega
        obtain ⟨L, hL, hdr, ho⟩ := hh.out
        have HO : Hid (∃ L, L.length ≤ 80 ∧ Dr L ∧ OneU (fun x => w.heap.size ≤ x) w wr w.heap.size L) := hide ⟨L, by omega, hdr, ho⟩
        clear hlt hh ho hdr hL HF HG
        rcases hx with hx | ⟨hx, hx2⟩ | ⟨hx, hx2, hx3⟩ <;> (
          go_wp2
          go_meet
          exact HO)
  case rest =>
    obtain ⟨L, hL, hdr, ho⟩ := hcut.out
    clear H1 HF HG hcut
    have hr := ho.ris
    obtain ⟨m, hm⟩ : ∃ m, L.length = m := ⟨_, rfl⟩
    obtain ⟨s, hs⟩ : ∃ s, shp L = s := ⟨_, rfl⟩
    have hsl : s.length = m := by rw [← hs, shp_length hr, hm]
    obtain ⟨hti, hth⟩ := treeOf_good L hr
    have hst : (treeOf L).shape 0 = s := hs
    have HR := hide hr
    have HDR := hide hdr
    have hm80 : m ≤ 80 := by omega
    have HSH := hide (shapeOU ho (by omega))
    rw [hs] at HSH
    have HLN := fun w' (h : OneU (fun x => w.heap.size ≤ x) w w' w.heap.size L) => hide (lenOU h)
    rw [hm] at HLN
    have P0 : Hid (0 < m → nd s 0 = 0) := hide (fun h => by rw [← hst]; exact shape_first _ _ (by rw [hst, hsl]; exact h))
    have P2 : Hid (∀ i, i + 1 < m → 1 ≤ nd s (i + 1) ∧ nd s (i + 1) ≤ nd s i + 1) := hide (fun i h => by rw [← hst]; exact shape_step _ 0 i (by rw [hst, hsl]; exact h))
    have P3 : Hid (∀ i k, i < k → k < m → (∀ j, i < j → j ≤ k → nd s i < nd s j) → Under L s i k) := hide (fun i k h1 h2 h3 => by
      have := shape_under (treeOf L) 0 hth (by rw [hti]; exact hr) i k h1 (by rw [hst, hsl]; exact h2) (by rw [hst]; exact h3)
      rw [hti, hst] at this; exact this)
    have P4 : Hid (∀ i, i < m → ∃ d, getL (nk s i) L = some (nk s i, d, d)) := hide (fun i h => by
      obtain ⟨d, v, h'⟩ := shape_item (treeOf L) 0 i (by rw [hst, hsl]; exact h)
      rw [hti, hst] at h'
      have e := hdr _ h'
      simp only at e
      subst e
      exact ⟨_, getL_of_mem hr h'⟩)
    clear ho hdr hL hr hti hth hst hs hm
    go_wp2_with fail
    refine HSH.out.mono ?_
    rintro x w3 ⟨v, rfl, h3, _, _, h4⟩
    obtain ⟨va, vc, rfl, hv⟩ := h3
    rw [hsl] at hv ⊢
    have H4 := hide h4
    by_cases hm0 : m = 0
    · subst hm0
      have HL4 := HLN w3 h4
      clear hv h4 P0 P2 P3 P4 HLN HSH
      go_wp2_with fail
      refine HL4.out.mono ?_
      rintro x w4 ⟨rfl, hw4⟩
      rw [hw4]
      clear hw4 w4
      go_wp2
      go_loopw [10] (fun i wr => i = .int .i64 0 ∧ wr = w3) (fun _ _ => 0)
      case atStart => exact ⟨rfl, rfl⟩
      case round =>
        obtain ⟨rfl, rfl⟩ := hrel
        go_wp2_with fail
        refine (awakeT _).mono ?_
        rintro z w7 ⟨rfl, h7⟩
        have H7 := hide (H4.out.below h7)
        clear h7
        go_wp2
        go_ret
        exact ⟨rfl, H7.out.back⟩
    · have hmp : 0 < m := by omega
      obtain ⟨g, rfl, hgl, hcells⟩ := hv (fun e => by rw [e] at hsl; simp at hsl; omega)
      have HCE : Hid (g < w3.heap.size ∧ ∀ i, i < m → w3.cell? ⟨g, i * 2, none⟩ = some (.int .i64 (nk s i)) ∧ w3.cell? ⟨g, i * 2 + 1, none⟩ = some (.int .i64 (nd s i : Int))) := hide ⟨hgl, hcells⟩
      have c01 : w3.cell? ⟨g, 1, none⟩ = some (.int .i64 0) := by have := (hcells 0 hmp).2; rw [show (s.getD 0 (0, 0)).2 = 0 from P0.out hmp] at this; simpa using this
      have HL4 := HLN w3 h4
      clear hv hcells h4 hm0
      go_wp2_with fail
      refine HL4.out.mono ?_
      rintro x w4 ⟨rfl, hw4⟩
      rw [hw4]
      clear hw4 w4
      have HGT : Hid (∀ u, Alike w3 u → ∀ i, i < m → ∃ d, getL (nk s i) L = some (nk s i, d, d) ∧ Calls Try.prog 26 #[.pointer (some ⟨w.heap.size, 0, none⟩), .int .i64 (nk s i)] u fun e w' => e = .returned (.tuple #[.int .u32 (d : Int), .bool true]) ∧ w' = u) := hide (fun u hu i hi => by
        obtain ⟨d, hd⟩ := P4.out i hi
        exact ⟨d, hd, getYesOU (H4.out.alike hu) _ _ d d hd⟩)
      have HCU : Hid (∀ u, Alike w3 u → ∀ i, i < m → u.cell? ⟨g, i * 2, none⟩ = some (.int .i64 (nk s i)) ∧ u.cell? ⟨g, i * 2 + 1, none⟩ = some (.int .i64 (nd s i : Int))) := hide (fun u hu i hi =>
        ⟨(World.cell?_of_block (a := ⟨g, i * 2, none⟩) (by rw [hu.heap])).trans (HCE.out.2 i hi).1, (World.cell?_of_block (a := ⟨g, i * 2 + 1, none⟩) (by rw [hu.heap])).trans (HCE.out.2 i hi).2⟩)
      have HB3 := hide H4.out.back
      have P5 : Hid (∀ i, i < m → nd s i ≤ i) := hide (fun i => by
        induction i with
        | zero => intro h; rw [P0.out h]; exact Nat.le_refl _
        | succ i ih => intro h; have := (P2.out i h).2; have := ih (by omega); omega)
      clear HL4 HCE HLN HSH P0 P4
      go_wp2
      clear c01
      go_loopw [10] (fun i wr => ∃ k : Nat, k ≤ m ∧ i = .int .i64 (k : Int) ∧ Hid (Alike w3 wr)) (fun i _ => m - (intOf i).toNat)
      case atStart => exact ⟨0, Nat.zero_le _, rfl, Alike.refl _⟩
      case round =>
        obtain ⟨k, hk, rfl, hal⟩ := hrel
        by_cases hlt : k < m
        · obtain ⟨dx, hdx, hget⟩ := HGT.out wr hal.out k hlt
          obtain ⟨a0, a1⟩ := HCU.out wr hal.out k hlt
          have HDX := hide hdx
          have HGE := hide hget
          obtain ⟨x, hx⟩ : ∃ x, nk s k = x := ⟨_, rfl⟩
          obtain ⟨ek, hek⟩ : ∃ ek, nd s k = ek := ⟨_, rfl⟩
          rw [hx] at HDX HGE a0
          rw [hek] at a1
          have HX := hide hx
          have HEK := hide hek
          have hek80 : ek ≤ 80 := by have := P5.out k hlt; omega
          clear hdx hget hx hek
          go_wp2_with fail
          refine HGE.out.mono ?_
          rintro z w5 ⟨rfl, hw5⟩
          rw [hw5]
          clear hw5 w5
          go_upto_region 18 with fail
          go_cut [120] from 76 to 216 (fun r wc => r = .bool false ∧ Hid (Alike w3 wc))
          case first =>
            have hk0 : k = 0 ∨ ∃ j, j + 1 = k := by
              cases k with
              | zero => exact .inl rfl
              | succ j => exact .inr ⟨j, rfl⟩
            rcases hk0 with hk0 | ⟨j, hj⟩
            · have d1 : decide (0 < k) = false := by simp; omega
              have d2 : decide ((0 : Int) < (k : Int)) = false := by simp; omega
              clear hk0
              go_quiet (fail)
              go_wp2
              go_meet
              exact ⟨rfl, hal.out.trans (Alike.drewN _ _)⟩
            · obtain ⟨_, b1⟩ := HCU.out wr hal.out j (by omega)
              have q := P2.out j (by omega)
              rw [hj, HEK.out] at q
              obtain ⟨ej, hej⟩ : ∃ ej, nd s j = ej := ⟨_, rfl⟩
              rw [hej] at b1 q
              have d1 : decide (0 < k) = true := by simp; omega
              have d2 : decide ((0 : Int) < (k : Int)) = true := by simp; omega
              have hjk : (k : Int) - 1 = (j : Int) := by omega
              have hjm : j < m := by omega
              have d3 : decide ((ek : Int) < 1) = false := by simp; omega
              have d3' : decide (ek < 1) = false := by simp; omega
              have hej2 : ej ≤ 80 := by have := P5.out j (by omega); omega
              have d4 : decide ((ej : Int) + 1 < (ek : Int)) = false := by simp; omega
              have d4' : decide (ej + 1 < ek) = false := by simp; omega
              clear hj q hej
              go_quiet (fail)
              go_wp2
              go_meet
              exact ⟨rfl, hal.out.trans (Alike.drewN _ _)⟩
          case rest =>
            obtain ⟨rfl, hal2⟩ := hcut
            clear hal a0 a1
            go_wp2
            go_loopw [13, 14] (fun rt j wr => ∃ q : Nat, k + 1 ≤ q ∧ q ≤ m ∧ j = .int .i64 (q : Int) ∧ rt = .bool (rg s k q) ∧ Hid ((∀ j', k < j' → j' < q → nd s k < nd s j') ∧ Alike w3 wr)) (fun _ j _ => m - (intOf j).toNat)
            case atStart => exact ⟨k + 1, by omega, by omega, by go_num, by rw [rg_none], ⟨fun j' h1 h2 => by omega, hal2.out⟩⟩
            case round =>
              clear hal2
              obtain ⟨q, hq1, hq2, rfl, rfl, hh⟩ := hrel
              obtain ⟨hde, hal3⟩ := hh.out
              have HAL := hide hal3
              have HDE := hide hde
              obtain ⟨a0, a1⟩ := HCU.out wr hal3 k hlt
              rw [HX.out] at a0
              rw [HEK.out] at a1
              by_cases hq : q < m
              · obtain ⟨b0, b1⟩ := HCU.out wr hal3 q hq
                obtain ⟨y, hy⟩ : ∃ y, nk s q = y := ⟨_, rfl⟩
                obtain ⟨eq, heq⟩ : ∃ eq, nd s q = eq := ⟨_, rfl⟩
                have heq80 : eq ≤ 80 := by have := P5.out q hq; omega
                rw [hy] at b0
                rw [heq] at b1
                have HY := hide hy
                by_cases hdp : ek < eq
                · have hu := P3.out k q (by omega) hq (fun j h1 h2 => by
                    by_cases hj : j = q
                    · rw [hj, HEK.out, heq]; exact hdp
                    · exact hde j h1 (by omega))
                  have HDN : Hid (∀ j', k < j' → j' < q + 1 → nd s k < nd s j') := hide (fun j h1 h2 => by
                    by_cases hj : j = q
                    · rw [hj, HEK.out, heq]; exact hdp
                    · exact hde j h1 (by omega))
                  obtain ⟨dy, hdy, _⟩ := HGT.out wr hal3 q hq
                  have HAB : Hid (Abv x dx y dy) := hide (by
                    have q1 := getL_spec HDX.out
                    have q2 := getL_spec hdy
                    have := hu.abv _ q1.1 _ q2.1 (by rw [HX.out]) rfl
                    rw [hy] at this; exact this)
                  have hnxy : y ≠ x := by have := hu.ne; rw [hy, HX.out] at this; exact this
                  have HRN : Hid (rg s k (q + 1) = decide (x < y)) := hide (by rw [rg_next (by omega) hu.right, HX.out, hy])
                  have HRT : Hid (rg s k q = true → x < y) := hide (fun h => by
                    obtain ⟨j, h1, h2, h3⟩ := rg_true h
                    have := hu.right j h1 h2 h3
                    rw [HX.out, hy] at this; exact this)
                  have HDY := hide hdy
                  have d1 : decide ((ek : Int) < (eq : Int)) = true := by simp; omega
                  have d1' : decide (ek < eq) = true := by simp; omega
                  clear hh hde hal3 hu hdy hy heq hdp
                  go_upto_region 22 with fail
                  go_cut [139] from 123 to 216 (fun r wc => r = .bool true ∧ Hid (Alike w3 wc))
                  case first =>
                    go_quiet (fail)
                    go_wp2
                    go_meet
                    exact ⟨rfl, HAL.out.trans (Alike.drewN _ _)⟩
                  case rest =>
                    obtain ⟨rfl, hal4⟩ := hcut
                    clear a0 a1 b0 b1 d1 d1'
                    obtain ⟨b0, _⟩ := HCU.out wc hal4.out q hq
                    obtain ⟨dy', hdy', hget⟩ := HGT.out wc hal4.out q hq
                    have hdd : dy' = dy := by have := HDY.out.symm.trans hdy'; simpa using this.symm
                    subst hdd
                    rw [HY.out] at b0 hget
                    have HGE2 := hide hget
                    clear hget hdy'
                    go_wp2_with fail
                    refine HGE2.out.mono ?_
                    rintro z w6 ⟨rfl, hw6⟩
                    rw [hw6]
                    clear hw6 w6 b0
                    go_upto_region 25 with fail
                    obtain ⟨a0, _⟩ := HCU.out wc hal4.out k hlt
                    obtain ⟨b0, _⟩ := HCU.out wc hal4.out q hq
                    rw [HX.out] at a0
                    rw [HY.out] at b0
                    go_cut [189] from 123 to 216 (fun r wc => r = .bool false ∧ Hid (Alike w3 wc))
                    case first =>
                      have hab := HAB.out
                      unfold Abv at hab
                      have e1 : decide ((dx : Int) < (dy' : Int)) = false := by simp; omega
                      have e1' : decide (dx < dy') = false := by simp; omega
                      have e2 : (y == x) = false := by rw [beq_eq_false_iff_ne]; exact hnxy
                      by_cases hde : dy' = dx
                      · have e3 : ((dy' : Int) == (dx : Int)) = true := by simp; omega
                        have e4 : decide (y < x) = false := by simp; omega
                        clear hab hde
                        go_quiet (fail)
                        go_wp2
                        go_meet
                        exact ⟨rfl, hal4.out.trans (Alike.drewN _ _)⟩
                      · have e3 : ((dy' : Int) == (dx : Int)) = false := by rw [beq_eq_false_iff_ne]; omega
                        clear hab hde
                        go_quiet (fail)
                        go_wp2
                        go_meet
                        exact ⟨rfl, hal4.out.trans (Alike.drewN _ _)⟩
                    case rest =>
                      obtain ⟨rfl, hal5⟩ := hcut
                      clear a0 b0
                      obtain ⟨a0, _⟩ := HCU.out wc hal5.out k hlt
                      obtain ⟨b0, _⟩ := HCU.out wc hal5.out q hq
                      rw [HX.out] at a0
                      rw [HY.out] at b0
                      go_upto_region 27 with fail
                      go_cut [13] from 123 to 216 (fun r wc => r = .bool (decide (x < y)) ∧ Hid (Alike w3 wc))
                      case first =>
                        cases hrg : rg s k q with
                        | true =>
                          have hxy := HRT.out hrg
                          have e5 : decide (x < y) = true := by simp; omega
                          clear hrg hxy
                          go_quiet (fail)
                          go_wp2
                          go_meet
                          exact ⟨by rw [e5], hal5.out.trans (Alike.drewN _ _)⟩
                        | false =>
                          clear hrg
                          go_quiet (fail)
                          go_wp2
                          go_meet
                          exact ⟨rfl, hal5.out.trans (Alike.drewN _ _)⟩
                      case rest =>
                        obtain ⟨rfl, hal6⟩ := hcut
                        clear a0 b0
                        obtain ⟨a0, _⟩ := HCU.out wc hal6.out k hlt
                        obtain ⟨b0, _⟩ := HCU.out wc hal6.out q hq
                        rw [HX.out] at a0
                        rw [HY.out] at b0
                        go_wp2
                        go_quiet (fail)
                        go_wp2
                        go_roundw
                        case rel => exact ⟨q + 1, by omega, by omega, by go_num, by rw [HRN.out], ⟨HDN.out, hal6.out.trans (Alike.drewN _ _)⟩⟩
                        case measure => simp [intOf]; omega
                · have d1 : decide ((ek : Int) < (eq : Int)) = false := by simp; omega
                  have d1' : decide (ek < eq) = false := by simp; omega
                  clear hh hde hal3 hy heq hdp HDE
                  go_upto_region 22 with fail
                  go_quiet (fail)
                  go_wp2
                  go_roundw
                  case rel => exact ⟨k + 1, by omega, by go_num, HAL.out.trans (Alike.drewN _ _)⟩
                  case measure => simp [intOf]; omega
              · have d1 : decide (q < m) = false := by simp; omega
                have d1' : decide ((q : Int) < (m : Int)) = false := by simp; omega
                clear hh hde hal3 HDE
                go_upto_region 22 with fail
                go_quiet (fail)
                go_wp2
                go_roundw
                case rel => exact ⟨k + 1, by omega, by go_num, HAL.out.trans (Alike.drewN _ _)⟩
                case measure => simp [intOf]; omega
        · clear HGT HCU P2 P3 P5
          go_wp2_with fail
          refine (awakeT _).mono ?_
          rintro z w7 ⟨rfl, h7⟩
          have H7 := hide ((HB3.out.trans (hal.out.below _)).trans (h7.mono (by have := HB3.out.size; rw [hal.out.heap]; exact this)))
          clear h7
          go_wp2
          go_ret
          exact ⟨rfl, H7.out⟩

set_option maxRecDepth 100000 in
theorem lifted (os : Os) (started : os.Started) (H : Type) (enc : TypeId × Value → H) :
    ReturnsInHanded {} Try.checked os 5 .any (Rows.treapHeapSpec.pre6 enc Try.prog Try.f5 Rows.treapHeapRow.domain false) (Rows.treapHeapSpec.post enc Try.prog Try.f5 false true false false) := by
  refine returnsInHanded_of_change (C := Try.checked) own started (by kernel_rfl) Try.func5
    (ChangeSpec.witness6 (enc := enc) (C := Try.checked) false ⟨#[], #[.slice none 0 0, .slice none 0 0], []⟩ 8 (by kernel_rfl) (by kernel_rfl) (by kernel_rfl) (by kernel_rfl)) ?_
  intro W base args ds gs before hval0 hW _ _
  have hval : ∀ (j : Nat) t v, Try.f5.params[j]? = some t → args[j]? = some v → Value.okWide Try.prog W .any base t v := hval0
  have hW' := hW
  obtain ⟨p, q, hA0, hV, rfl, hfz, hnd⟩ := hW
  have hA : DataW.TrodAll enc Try.prog W 0 (fun _ => true) true Try.f5.params.toList args.toList ds p := hA0
  rw [Try.params5] at hA hval
  obtain ⟨v0, vs0, d0, ds0, p0, q0, hargs, rfl, rfl, h0, r0⟩ := trodAll_cons hA
  obtain ⟨v1, vs1, d1, ds1, p1, q1, rfl, rfl, rfl, h1, r1⟩ := trodAll_cons r0
  obtain ⟨rfl, rfl, rfl⟩ := trodAll_nil r1
  obtain rfl : args = #[v0, v1] := by cases args; simp_all
  obtain ⟨rfl, rfl⟩ := trodVars_none hV
  have h0k := h0
  have lt0 : ∀ x ∈ p0, x.block < W.heap.size := fun x hx => hW'.lt x (by simp [hx])
  obtain ⟨l0_0, l0_1, l0_2, rfl, f0_0, f0_1, f0_2⟩ := open_ints (hval 0 38 v0 rfl rfl) h0
  have h1k := h1
  have lt1 : ∀ x ∈ p1, x.block < W.heap.size := fun x hx => hW'.lt x (by simp [hx])
  obtain ⟨l1_0, l1_1, l1_2, rfl, f1_0, f1_1, f1_2⟩ := open_draws (hval 1 42 v1 rfl rfl) h1
  clear hA0 hval0
  refine (walk l0_0 l0_1 l0_2 f0_0 f0_1 l1_0 l1_1 l1_2 f1_0 f1_1 W f0_2 f1_2).mono fun e W' ⟨he, bel⟩ => ?_
  subst he
  exact ⟨_, rfl, _, _, _, [], _, [], hW', trodAll_mk1 (shut_bool Try.underlying4 _), (trodAll_cons_mk (Below.trod laidOut (by kernel_rfl) (of_decide_eq_true (by kernel_rfl)) h0k bel lt0) (trodAll_cons_mk (Below.trod laidOut (by kernel_rfl) (of_decide_eq_true (by kernel_rfl)) h1k bel lt1) trodAll_mk0)), rfl, bel.frame _, fun h => by cases h⟩

end Go.Proofs.Ytblodflboalbmaa.treapHeap
namespace Go.Proofs.Ytblodflboalbmaa

theorem treapHeap_holds : Rows.TreapHeapSaid :=
  OpenClaim.holds_of_wide 5 Try.f5 rfl rfl rfl rfl rfl rfl rfl ⟨rfl, rfl, rfl, rfl, rfl⟩ rfl rfl rfl rfl rfl (by kernel_rfl) Try.func5 (by kernel_rfl)
    (of_decide_eq_true (by kernel_rfl)) (by unfold Func.isWrapper; first | (rw [if_pos (by decide +kernel)]; kernel_rfl) | (rw [if_neg (by decide +kernel)]; exact ⟨rfl, rfl⟩))
    (fun os started H enc _ => treapHeap.lifted os started H enc)
end Go.Proofs.Ytblodflboalbmaa
