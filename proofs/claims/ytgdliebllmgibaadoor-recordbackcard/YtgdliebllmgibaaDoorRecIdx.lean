/- A word of the program's side; the index words of all pages (the law's index). -/
import Derived.Test.YtgdliebllmgibaaDoorRecAwake
import Derived.Test.YtgdliebllmgibaaDoorLayRef
namespace Go.Proofs.YtgdliebllmgibaaDoor
open Go Go.RowKit

theorem plWordB (P T k p : Int) (w : World) :
    Calls Tryd.prog 21 #[.agg #[.int .i64 P, .int .i64 T], .int .i64 k, .int .i64 p] w fun e w' => e = .returned (.int .i64 (Lay.page P T k p).1) ∧ Below w.heap.size w w' := by
  have HK := hide (fun w => rlpage P T k p w)
  go_enter Tryd.func21, Tryd.ntmps21
  have B0 := LBox.new w P T 24
  have c0 := B0.c0
  have c1 := B0.c1
  go_wp2_with fail
  refine (HK.out _).mono ?_
  rintro e w1 ⟨rfl, hb⟩
  have B1 := LBox.grow (by assumption) hb
  go_wp2
  go_ret
  exact ⟨rfl, B1.below⟩
section
variable {R : Res} {w0 w : World} {q : Nat} {p r : Nat} {s : St} {pgs : Nat} {ds : List Nat} {dn : Nat} {L : RL}
set_option maxRecDepth 100000 in
/-- Read of a word that is there. -/
theorem plReadB {P T : Int} (lR : Loc R) (h : Own (Sep (AX q P T p r s pgs ds dn L) R) w0 w) (i : Nat) (hi : i < s.words.length) :
    Calls Tryd.prog 42 #[.pointer (some ⟨q, 0, none⟩), .int .i64 (i : Int)] w fun e w' => e = .returned (.int .u64 (s.words.getD i 0 : Int)) ∧ Own (Sep (AX q P T p r s pgs ds dn L) R) w0 w' := by
  obtain ⟨b, hS⟩ := AX.st h
  have H1 := hide (storeX h)
  have H2 := hide (words_of w p b s hS)
  have O := hide h
  have lA : Loc (Sep (AX q P T p r s pgs ds dn L) R) := Loc.ax.sep lR
  have HI := hide hi
  obtain ⟨x, hx⟩ : ∃ x, s.words.getD i 0 = x := ⟨_, rfl⟩
  have HX := hide hx
  rw [hx]
  clear hx
  obtain ⟨len, hlen⟩ : ∃ len, s.words.length = len := ⟨_, rfl⟩
  have HLN := hide hlen
  rw [hlen] at hi
  clear h hS hlen
  go_enter Tryd.func42, Tryd.ntmps42
  go_wp2_with fail
  refine H1.out.mono ?_
  rintro e w1 ⟨rfl, rfl⟩
  go_wp2_with fail
  refine H2.out.mono ?_
  rintro e w2 ⟨g, rfl, hw, hge, hb⟩
  rw [HLN.out]
  have z : w2.cell? ⟨g, i, none⟩ = some (.int .u64 (x : Int)) := by
    rw [← HX.out]
    exact (cell_of_heap hw.row).trans (wordVals_get _ _ HI.out)
  have O2 := hide (O.out.below lA hb)
  clear hw hge hb H1 H2 O
  go_wp2_with fail
  go_ret
  exact ⟨rfl, O2.out⟩

set_option maxRecDepth 100000 in
set_option maxHeartbeats 4000000 in
theorem lawIndex (lR : Loc R) (P : Nat) (T : Int) (h : Own (Sep (AX q (P : Int) T p r s pgs ds dn L) R) w0 w) (hm : Lay.may (P : Int) T = true) (hl : s.words.length = (Lay.words (P : Int) T).toNat) (pg n : Nat) (hpn : pg + n ≤ P) (c g : Int) (mk : Nat) (v : Nat)
    (hw : ∀ j : Nat, j < P → s.words.getD (Rec.atX (P : Int) T j) 0 = if pg ≤ j ∧ j < pg + n then v else 0) :
    Calls Tryd.prog 15 #[.pointer (some ⟨q, 0, none⟩), .agg #[.int .i64 (P : Int), .int .i64 T], .agg #[.int .i64 5, .int .i64 (P : Int), .int .i64 T, .int .i64 0, .int .i64 (pg : Int), .int .i64 c, .int .i64 (n : Int), .int .i64 g, .int .i64 0, .int .i64 0, .int .i64 0, .int .u64 (mk : Int), .bool false, .slice none 0 0, .slice none 0 0, .bool false, .int .i64 0, .bool false, .pointer none, .int .i64 0, .int .i64 0, .int .u64 0, .int .u64 0, .int .i64 0, .int .i64 0, .int .i64 0, .int .i64 0, .int .u64 0, .slice none 0 0, .slice none 0 0, .int .i64 0, .int .i64 0], .int .u64 (v : Int)] w fun e w' => e = .returned (.bool true) ∧ Own (Sep (AX q (P : Int) T p r s pgs ds dn L) R) w0 w' := by
  obtain ⟨m1, m2, m3, m4⟩ := Lay.may_iff.1 hm
  have hP9 : P ≤ 4096 := by omega
  have hz : (w.alloc (.cells #[.int .i64 (P : Int), .int .i64 T] 24)).heap.size = w.heap.size + 1 := by simp
  have lA : Loc (Sep (AX q (P : Int) T p r s pgs ds dn L) R) := Loc.ax.sep lR
  have o1 := Own.boNew (m := w.heap.size) (o := (.cells #[.int .i64 (P : Int), .int .i64 T] 24 (0, 0))) lA h (heap_alloc_at w _) (Nat.le_refl _) (grown1 w (.cells #[.int .i64 (P : Int), .int .i64 T] 24))
  have o2 := Own.boNew (m := w.heap.size + 1) (o := (.cells #[.int .i64 5, .int .i64 (P : Int), .int .i64 T, .int .i64 0, .int .i64 (pg : Int), .int .i64 c, .int .i64 (n : Int), .int .i64 g, .int .i64 0, .int .i64 0, .int .i64 0, .int .u64 (mk : Int), .bool false, .slice none 0 0, .slice none 0 0, .bool false, .int .i64 0, .bool false, .pointer none, .int .i64 0, .int .i64 0, .int .u64 0, .int .u64 0, .int .i64 0, .int .i64 0, .int .i64 0, .int .i64 0, .int .u64 0, .slice none 0 0, .slice none 0 0, .int .i64 0, .int .i64 0] 38 (0, 0))) (Loc.bo.sep lA) o1 (by rw [← hz]; exact heap_alloc_at _ (.cells #[.int .i64 5, .int .i64 (P : Int), .int .i64 T, .int .i64 0, .int .i64 (pg : Int), .int .i64 c, .int .i64 (n : Int), .int .i64 g, .int .i64 0, .int .i64 0, .int .i64 0, .int .u64 (mk : Int), .bool false, .slice none 0 0, .slice none 0 0, .bool false, .int .i64 0, .bool false, .pointer none, .int .i64 0, .int .i64 0, .int .u64 0, .int .u64 0, .int .i64 0, .int .i64 0, .int .i64 0, .int .i64 0, .int .u64 0, .slice none 0 0, .slice none 0 0, .int .i64 0, .int .i64 0] 38)) (by rw [hz]; omega) (grown1 _ (.cells #[.int .i64 5, .int .i64 (P : Int), .int .i64 T, .int .i64 0, .int .i64 (pg : Int), .int .i64 c, .int .i64 (n : Int), .int .i64 g, .int .i64 0, .int .i64 0, .int .i64 0, .int .u64 (mk : Int), .bool false, .slice none 0 0, .slice none 0 0, .bool false, .int .i64 0, .bool false, .pointer none, .int .i64 0, .int .i64 0, .int .u64 0, .int .u64 0, .int .i64 0, .int .i64 0, .int .i64 0, .int .i64 0, .int .u64 0, .slice none 0 0, .slice none 0 0, .int .i64 0, .int .i64 0] 38))
  have O2 : Hid (Own (Sep (AX q (P : Int) T p r s pgs ds dn L) (Sep (BO (w.heap.size + 1) (.cells #[.int .i64 5, .int .i64 (P : Int), .int .i64 T, .int .i64 0, .int .i64 (pg : Int), .int .i64 c, .int .i64 (n : Int), .int .i64 g, .int .i64 0, .int .i64 0, .int .i64 0, .int .u64 (mk : Int), .bool false, .slice none 0 0, .slice none 0 0, .bool false, .int .i64 0, .bool false, .pointer none, .int .i64 0, .int .i64 0, .int .u64 0, .int .u64 0, .int .i64 0, .int .i64 0, .int .i64 0, .int .i64 0, .int .u64 0, .slice none 0 0, .slice none 0 0, .int .i64 0, .int .i64 0] 38 (0, 0))) (Sep (BO w.heap.size (.cells #[.int .i64 (P : Int), .int .i64 T] 24 (0, 0))) R))) w0 ((w.alloc (.cells #[.int .i64 (P : Int), .int .i64 T] 24)).alloc (.cells #[.int .i64 5, .int .i64 (P : Int), .int .i64 T, .int .i64 0, .int .i64 (pg : Int), .int .i64 c, .int .i64 (n : Int), .int .i64 g, .int .i64 0, .int .i64 0, .int .i64 0, .int .u64 (mk : Int), .bool false, .slice none 0 0, .slice none 0 0, .bool false, .int .i64 0, .bool false, .pointer none, .int .i64 0, .int .i64 0, .int .u64 0, .int .u64 0, .int .i64 0, .int .i64 0, .int .i64 0, .int .i64 0, .int .u64 0, .slice none 0 0, .slice none 0 0, .int .i64 0, .int .i64 0] 38))) := hide (o2.cast (by ac_rfl))
  have HPG := hide (fun (j : Nat) (hj : j < P) => pageX hm j (by omega))
  have HAT := hide (fun (j : Nat) (hj : j < P) => (by rw [hl]; exact (at_lt hm j (by omega)).1 : Rec.atX (P : Int) T j < s.words.length))
  have HW := hide hw
  clear o1 o2 h hz hm hl hw m1 m2 m3 m4
  go_enter Tryd.func15, Tryd.ntmps15
  go_wp2
  generalize ((w.alloc (.cells #[.int .i64 (P : Int), .int .i64 T] 24)).alloc (.cells #[.int .i64 5, .int .i64 (P : Int), .int .i64 T, .int .i64 0, .int .i64 (pg : Int), .int .i64 c, .int .i64 (n : Int), .int .i64 g, .int .i64 0, .int .i64 0, .int .i64 0, .int .u64 (mk : Int), .bool false, .slice none 0 0, .slice none 0 0, .bool false, .int .i64 0, .bool false, .pointer none, .int .i64 0, .int .i64 0, .int .u64 0, .int .u64 0, .int .i64 0, .int .i64 0, .int .i64 0, .int .i64 0, .int .u64 0, .slice none 0 0, .slice none 0 0, .int .i64 0, .int .i64 0] 38)) = w1 at *
  generalize w.heap.size = bl at *
  have lM : Loc (Sep (BO (bl + 1) (.cells #[.int .i64 5, .int .i64 (P : Int), .int .i64 T, .int .i64 0, .int .i64 (pg : Int), .int .i64 c, .int .i64 (n : Int), .int .i64 g, .int .i64 0, .int .i64 0, .int .i64 0, .int .u64 (mk : Int), .bool false, .slice none 0 0, .slice none 0 0, .bool false, .int .i64 0, .bool false, .pointer none, .int .i64 0, .int .i64 0, .int .u64 0, .int .u64 0, .int .i64 0, .int .i64 0, .int .i64 0, .int .i64 0, .int .u64 0, .slice none 0 0, .slice none 0 0, .int .i64 0, .int .i64 0] 38 (0, 0))) (Sep (BO bl (.cells #[.int .i64 (P : Int), .int .i64 T] 24 (0, 0))) R)) := Loc.bo.sep (Loc.bo.sep lR)
  generalize Value.agg #[.int .i64 5, .int .i64 (P : Int), .int .i64 T, .int .i64 0, .int .i64 (pg : Int), .int .i64 c, .int .i64 (n : Int), .int .i64 g, .int .i64 0, .int .i64 0, .int .i64 0, .int .u64 (mk : Int), .bool false, .slice none 0 0, .slice none 0 0, .bool false, .int .i64 0, .bool false, .pointer none, .int .i64 0, .int .i64 0, .int .u64 0, .int .u64 0, .int .i64 0, .int .i64 0, .int .i64 0, .int .i64 0, .int .u64 0, .slice none 0 0, .slice none 0 0, .int .i64 0, .int .i64 0] = av at *
  go_loopw [9] (fun i wr => ∃ j : Nat, j ≤ P ∧ i = .int .i64 (j : Int) ∧ Hid (Own (Sep (AX q (P : Int) T p r s pgs ds dn L) (Sep (BO (bl + 1) (.cells #[.int .i64 5, .int .i64 (P : Int), .int .i64 T, .int .i64 0, .int .i64 (pg : Int), .int .i64 c, .int .i64 (n : Int), .int .i64 g, .int .i64 0, .int .i64 0, .int .i64 0, .int .u64 (mk : Int), .bool false, .slice none 0 0, .slice none 0 0, .bool false, .int .i64 0, .bool false, .pointer none, .int .i64 0, .int .i64 0, .int .u64 0, .int .u64 0, .int .i64 0, .int .i64 0, .int .i64 0, .int .i64 0, .int .u64 0, .slice none 0 0, .slice none 0 0, .int .i64 0, .int .i64 0] 38 (0, 0))) (Sep (BO bl (.cells #[.int .i64 (P : Int), .int .i64 T] 24 (0, 0))) R))) w0 wr)) (fun i _ => P - (intOf i).toNat)
  case atStart => exact ⟨0, Nat.zero_le _, rfl, O2⟩
  case round =>
    obtain ⟨j, hj, rfl, hO⟩ := hrel
    clear O2
    have hML := hO.out.has (m := bl) (o := (.cells #[.int .i64 (P : Int), .int .i64 T] 24 (0, 0))) (R := Sep (AX q (P : Int) T p r s pgs ds dn L) (Sep (BO (bl + 1) (.cells #[.int .i64 5, .int .i64 (P : Int), .int .i64 T, .int .i64 0, .int .i64 (pg : Int), .int .i64 c, .int .i64 (n : Int), .int .i64 g, .int .i64 0, .int .i64 0, .int .i64 0, .int .u64 (mk : Int), .bool false, .slice none 0 0, .slice none 0 0, .bool false, .int .i64 0, .bool false, .pointer none, .int .i64 0, .int .i64 0, .int .u64 0, .int .u64 0, .int .i64 0, .int .i64 0, .int .i64 0, .int .i64 0, .int .u64 0, .slice none 0 0, .slice none 0 0, .int .i64 0, .int .i64 0] 38 (0, 0))) R)) (by ac_rfl)
    have hMM := hO.out.has (m := bl + 1) (o := (.cells #[.int .i64 5, .int .i64 (P : Int), .int .i64 T, .int .i64 0, .int .i64 (pg : Int), .int .i64 c, .int .i64 (n : Int), .int .i64 g, .int .i64 0, .int .i64 0, .int .i64 0, .int .u64 (mk : Int), .bool false, .slice none 0 0, .slice none 0 0, .bool false, .int .i64 0, .bool false, .pointer none, .int .i64 0, .int .i64 0, .int .u64 0, .int .u64 0, .int .i64 0, .int .i64 0, .int .i64 0, .int .i64 0, .int .u64 0, .slice none 0 0, .slice none 0 0, .int .i64 0, .int .i64 0] 38 (0, 0))) (R := Sep (AX q (P : Int) T p r s pgs ds dn L) (Sep (BO bl (.cells #[.int .i64 (P : Int), .int .i64 T] 24 (0, 0))) R)) (by ac_rfl)
    have c0 : wr.cell? ⟨bl, 0, none⟩ = some (.int .i64 (P : Int)) := cell_of_heap hML
    have c1 : wr.cell? ⟨bl, 1, none⟩ = some (.int .i64 T) := cell_of_heap hML
    have x4 : wr.cell? ⟨bl + 1, 4, none⟩ = some (.int .i64 (pg : Int)) := cell_of_heap hMM
    have x6 : wr.cell? ⟨bl + 1, 6, none⟩ = some (.int .i64 (n : Int)) := cell_of_heap hMM
    clear hML hMM
    by_cases hlt : j < P
    · have d1 : decide ((j : Int) < (P : Int)) = true := by simp; omega
      have d1' : decide (j < P) = true := by simp; omega
      have hwj := HW.out j hlt
      have HAJ := hide (HAT.out j hlt)
      have HPJ := hide (HPG.out j hlt)
      by_cases hge : pg ≤ j
      · have e1 : decide ((j : Int) ≥ (pg : Int)) = true := by simp; omega
        have e1' : decide (pg ≤ j) = true := by simp; omega
        by_cases hle : j < pg + n
        · have e2 : decide ((j : Int) < (pg : Int) + (n : Int)) = true := by simp; omega
          rw [if_pos ⟨hge, hle⟩] at hwj
          have HWJ := hide hwj
          clear hwj
          go_wp2_with fail
          refine (plWordB (P : Int) T 14 (j : Int) _).mono ?_
          rintro e w3 ⟨rfl, b3⟩
          have O3 := hide (hO.out.below (Loc.ax.sep lM) b3)
          rw [HPJ.out]
          clear b3 hO c0 c1 x4 x6
          go_wp2_with fail
          refine (plReadB lM O3.out _ HAJ.out).mono ?_
          rintro e w4 ⟨rfl, o4⟩
          have O4 := hide o4
          clear o4 O3
          rw [HWJ.out]
          go_wp2
          go_roundw
          case rel => exact ⟨j + 1, by omega, by go_num, O4⟩
          case measure => simp [intOf]; omega
        · have e2 : decide ((j : Int) < (pg : Int) + (n : Int)) = false := by simp; omega
          rw [if_neg (by omega)] at hwj
          have HWJ := hide hwj
          clear hwj
          go_wp2_with fail
          refine (plWordB (P : Int) T 14 (j : Int) _).mono ?_
          rintro e w3 ⟨rfl, b3⟩
          have O3 := hide (hO.out.below (Loc.ax.sep lM) b3)
          rw [HPJ.out]
          clear b3 hO c0 c1 x4 x6
          go_wp2_with fail
          refine (plReadB lM O3.out _ HAJ.out).mono ?_
          rintro e w4 ⟨rfl, o4⟩
          have O4 := hide o4
          clear o4 O3
          rw [HWJ.out]
          go_wp2
          go_roundw
          case rel => exact ⟨j + 1, by omega, by go_num, O4⟩
          case measure => simp [intOf]; omega
      · have e1 : decide ((j : Int) ≥ (pg : Int)) = false := by simp; omega
        have e1' : decide (pg ≤ j) = false := by simp; omega
        rw [if_neg (by omega)] at hwj
        have HWJ := hide hwj
        clear hwj
        go_wp2_with fail
        refine (plWordB (P : Int) T 14 (j : Int) _).mono ?_
        rintro e w3 ⟨rfl, b3⟩
        have O3 := hide (hO.out.below (Loc.ax.sep lM) b3)
        rw [HPJ.out]
        clear b3 hO c0 c1 x4 x6
        go_wp2_with fail
        refine (plReadB lM O3.out _ HAJ.out).mono ?_
        rintro e w4 ⟨rfl, o4⟩
        have O4 := hide o4
        clear o4 O3
        rw [HWJ.out]
        go_wp2
        go_roundw
        case rel => exact ⟨j + 1, by omega, by go_num, O4⟩
        case measure => simp [intOf]; omega
    · have hjP : j = P := by omega
      have d1 : decide ((j : Int) < (P : Int)) = false := by simp; omega
      have d1' : decide (j < P) = false := by simp; omega
      clear hjP
      go_wp2
      go_ret
      exact ⟨rfl, (hO.out.cast (R' := Sep (BO (bl + 1) (.cells #[.int .i64 5, .int .i64 (P : Int), .int .i64 T, .int .i64 0, .int .i64 (pg : Int), .int .i64 c, .int .i64 (n : Int), .int .i64 g, .int .i64 0, .int .i64 0, .int .i64 0, .int .u64 (mk : Int), .bool false, .slice none 0 0, .slice none 0 0, .bool false, .int .i64 0, .bool false, .pointer none, .int .i64 0, .int .i64 0, .int .u64 0, .int .u64 0, .int .i64 0, .int .i64 0, .int .i64 0, .int .i64 0, .int .u64 0, .slice none 0 0, .slice none 0 0, .int .i64 0, .int .i64 0] 38 (0, 0))) (Sep (BO bl (.cells #[.int .i64 (P : Int), .int .i64 T] 24 (0, 0))) (Sep (AX q (P : Int) T p r s pgs ds dn L) R))) (by ac_rfl)).drop.drop⟩
end
end Go.Proofs.YtgdliebllmgibaaDoor
