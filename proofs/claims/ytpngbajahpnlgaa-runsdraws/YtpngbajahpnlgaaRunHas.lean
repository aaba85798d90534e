/- has, right: what the laws read off a list of runs. -/
import Derived.Test.YtpngbajahpnlgaaRunLaw
import Derived.Deep.LoopGhost
namespace Go.Proofs.Ytpngbajahpnlgaa
open Go.RowKit

theorem RunsV.cells {W : World} {v : Value} {l : List (Int × Int)} (h : RunsV W v l) : ∃ a c, v = .slice a l.length c ∧ ∀ j, j < l.length → ∃ g, a = some ⟨g, 0, none⟩ ∧ W.cell? ⟨g, j * 2, none⟩ = some (.int .i64 (l.getD j (0, 0)).1) ∧ W.cell? ⟨g, j * 2 + 1, none⟩ = some (.int .i64 (l.getD j (0, 0)).2) := by
  obtain ⟨a, c, e, h⟩ := h
  refine ⟨a, c, e, fun j hj => ?_⟩
  obtain ⟨g, e2, _, h3⟩ := h (fun e => by rw [e] at hj; simp at hj)
  exact ⟨g, e2, h3 j hj⟩

/-- Runs that are small numbers. -/
def Small (l : List (Int × Int)) : Prop := ∀ j, j < l.length → 0 ≤ (l.getD j (0, 0)).1 ∧ (l.getD j (0, 0)).1 < 8192 ∧ 1 ≤ (l.getD j (0, 0)).2 ∧ (l.getD j (0, 0)).2 ≤ 4096
theorem small_of {m pg : Nat} {ds : List Nat} {dn : Nat} {L : RL} (hf : Fit m pg ds dn L) : Small (runsOf L) := fun j hj => by
  obtain ⟨i, hi, e⟩ := lst_get hj
  rw [e]
  have h1 := hf.good.ran i hi
  have h2 := rA_bd i.1
  have h3 := hf.most
  simp only
  omega
theorem any_upto {l : List (Int × Int)} {f : Int × Int → Bool} {j : Nat} (h : ∀ i, i < j → f (l.getD i (0, 0)) = false) (hj : j = l.length) : l.any f = false := by
  rw [← Bool.not_eq_true, List.any_eq_true]
  rintro ⟨x, hx, hf⟩
  obtain ⟨i, hi, rfl⟩ := List.getElem_of_mem hx
  have := h i (by omega)
  rw [List.getD_eq_getElem?_getD, List.getElem?_eq_getElem hi] at this
  simp at this
  rw [this] at hf; cases hf
theorem any_at {l : List (Int × Int)} {f : Int × Int → Bool} {j : Nat} (hj : j < l.length) (h : f (l.getD j (0, 0)) = true) : l.any f = true := by
  rw [List.any_eq_true]
  refine ⟨l.getD j (0, 0), ?_, h⟩
  rw [List.getD_eq_getElem?_getD, List.getElem?_eq_getElem hj]
  exact List.getElem_mem _

set_option maxRecDepth 100000 in
set_option maxHeartbeats 2000000 in
theorem has23 (w : World) (v : Value) (l : List (Int × Int)) (h : RunsV w v l) (hs : Small l) (hl : l.length ≤ 1000000) (p : Int) (hp : -1000000 ≤ p ∧ p ≤ 1000000) :
    Calls Try.prog 23 #[v, .int .i64 p] w fun e w' => e = .returned (.bool (hasB l p)) ∧ Alike w w' := by
  obtain ⟨a, c, rfl, hc⟩ := h.cells
  have HC := hide hc
  have HS := hide hs
  obtain ⟨m, hm⟩ : ∃ m, l.length = m := ⟨_, rfl⟩
  have HM := hide hm
  rw [hm] at hl ⊢
  obtain ⟨B, hB⟩ : ∃ B, hasB l p = B := ⟨_, rfl⟩
  have HB := hide hB
  rw [hB]
  clear h hc hs hm hB
  go_enter Try.func23, Try.ntmps23
  go_wp2
  go_loopg [5] m (fun g r5 wr => ∃ j, j + g = m ∧ r5 = .int .i64 (j : Int) ∧ Alike w wr ∧ ∀ i, i < j → (decide ((l.getD i (0, 0)).1 ≤ p) && decide (p < (l.getD i (0, 0)).1 + (l.getD i (0, 0)).2)) = false)
  case atStart => exact ⟨0, by omega, rfl, Alike.refl _, fun i hi => by omega⟩
  case round =>
    obtain ⟨j, hj, rfl, hal, hno⟩ := hrel
    by_cases hjm : j = m
    · have HE : Hid (false = B) := hide (by rw [← HB.out]; exact (any_upto hno (by rw [HM.out]; exact hjm)).symm)
      have d1 : decide ((j : Int) < (m : Int)) = false := by simp; omega
      have d2 : decide (j < m) = false := by simp; omega
      have HA := hide hal
      clear hno hal hjm
      go_wp2
      go_ret
      exact ⟨ret_bool HE.out, HA.out⟩
    · have d1 : decide ((j : Int) < (m : Int)) = true := by simp; omega
      have d2 : decide (j < m) = true := by simp; omega
      obtain ⟨g, rfl, x1, x2⟩ := HC.out j (by rw [HM.out]; omega)
      replace x1 : wr.cell? ⟨g, j * 2, none⟩ = some (.int .i64 (l.getD j (0, 0)).1) := (World.cell?_of_block (a := ⟨g, j * 2, none⟩) (by rw [hal.heap])).trans x1
      replace x2 : wr.cell? ⟨g, j * 2 + 1, none⟩ = some (.int .i64 (l.getD j (0, 0)).2) := (World.cell?_of_block (a := ⟨g, j * 2 + 1, none⟩) (by rw [hal.heap])).trans x2
      have hsm := HS.out j (by rw [HM.out]; omega)
      have HA := hide hal
      have HNO := hide hno
      have HN2 : Hid ((decide ((l.getD j (0, 0)).1 ≤ p) && decide (p < (l.getD j (0, 0)).1 + (l.getD j (0, 0)).2)) = false → ∀ i, i < j + 1 → (decide ((l.getD i (0, 0)).1 ≤ p) && decide (p < (l.getD i (0, 0)).1 + (l.getD i (0, 0)).2)) = false) := hide (fun q i hi => by
        by_cases e : i = j
        · rw [e]; exact q
        · exact hno i (by omega))
      have HYES : Hid ((decide ((l.getD j (0, 0)).1 ≤ p) && decide (p < (l.getD j (0, 0)).1 + (l.getD j (0, 0)).2)) = true → true = B) := hide (fun q => by rw [← HB.out]; exact (any_at (by rw [HM.out]; omega) q).symm)
      clear hno hal HC HS
      generalize (l.getD j (0, 0)).1 = y at *
      generalize (l.getD j (0, 0)).2 = z at *
      by_cases k1 : y ≤ p
      · have d3 : decide (y ≤ p) = true := by simp [k1]
        by_cases k2 : p < y + z
        · have d4 : decide (p < y + z) = true := by simp [k2]
          go_wp2
          go_quiet (fail)
          go_wp2
          go_ret
          exact ⟨ret_bool (HYES.out (by rw [d3, d4]; rfl)), HA.out.trans (Alike.drewN _ _)⟩
        · have d4 : decide (p < y + z) = false := by simp; omega
          go_wp2
          go_quiet (fail)
          go_wp2
          go_roundg (m - (j + 1))
          case measure => omega
          case rel => exact ⟨j + 1, by omega, by simp, HA.out.trans (Alike.drewN _ _), HN2.out (by rw [d3, d4]; rfl)⟩
      · have d3 : decide (y ≤ p) = false := by simp; omega
        go_wp2
        go_quiet (fail)
        go_wp2
        go_roundg (m - (j + 1))
        case measure => omega
        case rel => exact ⟨j + 1, by omega, by simp, HA.out.trans (Alike.drewN _ _), HN2.out (by rw [d3]; rfl)⟩

/-- Something lies between. -/
def Gaps (l : List (Int × Int)) : Prop := ∀ j, j + 1 < l.length → (l.getD j (0, 0)).1 + (l.getD j (0, 0)).2 < (l.getD (j + 1) (0, 0)).1
theorem gaps_of {pg : Int} {L : RL} (h : Good pg L) : Gaps (runsOf L) := fun j hj => by
  have hu := List.pairwise_iff_getElem.1 (runsOf_up h) j (j + 1) (by omega) hj (by omega)
  obtain ⟨i, hi, e⟩ := lst_get (L := L) (j := j) (by omega)
  obtain ⟨i', hi', e'⟩ := lst_get (L := L) (j := j + 1) hj
  have u1 : (runsOf L)[j] = (runsOf L).getD j (0, 0) := by simp [List.getD, show j < (runsOf L).length by omega]
  have u2 : (runsOf L)[j + 1] = (runsOf L).getD (j + 1) (0, 0) := by simp [List.getD, hj]
  rw [u1, u2, e, e'] at hu
  rw [e, e']
  simp only at hu ⊢
  have hne : i.1 ≠ i'.1 := fun q => by rw [q] at hu; omega
  have := h.sep i hi i' hi' hne
  have := h.ran i hi; have := h.ran i' hi'
  omega

set_option maxRecDepth 100000 in
set_option maxHeartbeats 2000000 in
theorem right24 (w : World) (v : Value) (l : List (Int × Int)) (h : RunsV w v l) (hs : Small l) (hg : Gaps l) (hl : l.length ≤ 1000000) :
    Calls Try.prog 24 #[v] w fun e w' => e = .returned (.bool true) ∧ Alike w w' := by
  obtain ⟨a, c, rfl, hc⟩ := h.cells
  have HC := hide hc
  have HS := hide hs
  have HG := hide hg
  obtain ⟨m, hm⟩ : ∃ m, l.length = m := ⟨_, rfl⟩
  have HM := hide hm
  rw [hm] at hl ⊢
  clear h hc hs hm hg
  go_enter Try.func24, Try.ntmps24
  go_wp2
  go_loopg [3] m (fun g r3 wr => ∃ j, j + g = m ∧ r3 = .int .i64 (j : Int) ∧ Alike w wr)
  case atStart => exact ⟨0, by omega, rfl, Alike.refl _⟩
  case round =>
    obtain ⟨j, hj, rfl, hal⟩ := hrel
    by_cases hjm : j = m
    · have d1 : decide ((j : Int) < (m : Int)) = false := by simp; omega
      have d2 : decide (j < m) = false := by simp; omega
      have HA := hide hal
      clear hal hjm
      go_wp2
      go_ret
      exact ⟨rfl, HA.out⟩
    · have d1 : decide ((j : Int) < (m : Int)) = true := by simp; omega
      have d2 : decide (j < m) = true := by simp; omega
      obtain ⟨g, rfl, x1, x2⟩ := HC.out j (by rw [HM.out]; omega)
      replace x1 : wr.cell? ⟨g, j * 2, none⟩ = some (.int .i64 (l.getD j (0, 0)).1) := (World.cell?_of_block (a := ⟨g, j * 2, none⟩) (by rw [hal.heap])).trans x1
      replace x2 : wr.cell? ⟨g, j * 2 + 1, none⟩ = some (.int .i64 (l.getD j (0, 0)).2) := (World.cell?_of_block (a := ⟨g, j * 2 + 1, none⟩) (by rw [hal.heap])).trans x2
      have hsm := HS.out j (by rw [HM.out]; omega)
      have HA := hide hal
      cases j with
      | zero =>
        clear hal HC HS HG
        generalize (l.getD 0 (0, 0)).1 = y at *
        generalize (l.getD 0 (0, 0)).2 = z at *
        have d3 : decide (z < 1) = false := by simp; omega
        go_wp2
        go_quiet (fail)
        go_wp2
        go_roundg (m - 1)
        case measure => omega
        case rel => exact ⟨1, by omega, by simp, HA.out.trans (Alike.drewN _ _)⟩
      | succ j =>
        obtain ⟨g', hg', y1, y2⟩ := HC.out j (by rw [HM.out]; omega)
        cases hg'
        replace y1 : wr.cell? ⟨g, j * 2, none⟩ = some (.int .i64 (l.getD j (0, 0)).1) := (World.cell?_of_block (a := ⟨g, j * 2, none⟩) (by rw [hal.heap])).trans y1
        replace y2 : wr.cell? ⟨g, j * 2 + 1, none⟩ = some (.int .i64 (l.getD j (0, 0)).2) := (World.cell?_of_block (a := ⟨g, j * 2 + 1, none⟩) (by rw [hal.heap])).trans y2
        have hsn := HS.out j (by rw [HM.out]; omega)
        have hgp := HG.out j (by rw [HM.out]; omega)
        clear hal HC HS HG
        generalize (l.getD j (0, 0)).1 = p at *
        generalize (l.getD j (0, 0)).2 = q at *
        generalize (l.getD (j + 1) (0, 0)).1 = y at *
        generalize (l.getD (j + 1) (0, 0)).2 = z at *
        have d3 : decide (z < 1) = false := by simp; omega
        have d4 : decide ((0 : Int) < ((j + 1 : Nat) : Int)) = true := by simp
        have d6 : decide ((0 : Int) < (j : Int) + 1) = true := by simp
        have d5 : decide (y ≤ p + q) = false := by simp; omega
        have e1 : ((j + 1 : Nat) : Int) - 1 = (j : Int) := by omega
        go_wp2
        go_quiet (fail)
        go_wp2
        go_roundg (m - (j + 2))
        case measure => omega
        case rel => exact ⟨j + 2, by omega, by simp; omega, HA.out.trans (Alike.drewN _ _)⟩
end Go.Proofs.Ytpngbajahpnlgaa
