/- What the words say on the way of a span that is laid in a new arena, and gone. -/
import Derived.Test.YtgdliebllmgibaaDoorRecAwake
namespace Go.Proofs.YtgdliebllmgibaaDoor
open Go Go.RowKit

theorem first_zero' (W i : Nat) (hi : 1 ≤ i) : (St.first W).words.getD i 0 = 0 := by
  show (((List.replicate W 0).set 0 1).getD i 0) = 0
  rw [List.getD_eq_getElem?_getD, List.getElem?_set_ne (by omega)]
  by_cases h : i < W
  · simp [h]
  · simp [h]
/-- A span where one page alone has a state. -/
theorem upto_one {ws : List Nat} {P T : Int} {pg : Nat} (h1 : Rec.tol ws P T 9 (pg : Int) ≠ 0) : ∀ N, (∀ p : Nat, p < N → p ≠ pg → Rec.tol ws P T 9 (p : Int) = 0) → Rec.upto ws P T N = if pg < N then [Rec.said ws P T (pg : Int)] else []
  | 0, _ => by rw [if_neg (by omega)]; rfl
  | N + 1, h => by
    have ih := upto_one h1 N (fun p hp hn => h p (by omega) hn)
    by_cases e : N = pg
    · subst e
      rw [Rec.upto_yes h1, ih, if_neg (by omega), if_pos (by omega)]; rfl
    · rw [Rec.upto_no (h N (by omega) e), ih]
      by_cases hl : pg < N
      · rw [if_pos hl, if_pos (by omega)]
      · rw [if_neg hl, if_neg (by omega)]
theorem upto_none {ws : List Nat} {P T : Int} : ∀ N, (∀ p : Nat, p < N → Rec.tol ws P T 9 (p : Int) = 0) → Rec.upto ws P T N = []
  | 0, _ => rfl
  | N + 1, h => by rw [Rec.upto_no (h N (by omega)), upto_none N (fun p hp => h p (by omega))]

section
variable {N pg n c : Nat} {T : Int} {al st : Nat} {g : Int}
theorem back_words (hm : Lay.may (N : Int) T = true) (hn1 : 1 ≤ n) (hp : pg + n ≤ N) : ∀ k, k ≤ n + 4 →
    LayW (N : Int) T pg n (256 * n + c) al st k (St.first (Lay.words (N : Int) T).toNat).words (putN (layAt (N : Int) T pg n (256 * n + c) al st) (St.first (Lay.words (N : Int) T).toNat) k).words :=
  layW hm pg n (256 * n + c) al st hn1 (by omega) _ (by
    show ((List.replicate _ 0).set 0 1).length = _
    simp)
theorem first_len (W : Nat) : (St.first W).words.length = W := by show ((List.replicate W 0).set 0 1).length = W; simp
theorem back_tol (hm : Lay.may (N : Int) T = true) (hn1 : 1 ≤ n) (hp : pg + n ≤ N) (k : Nat) (hk : k ≤ n + 4) (p j : Nat) (hpN : p < N) (hj : j < 5) (kd : Int) (hkd : kd = 9 + (j : Int)) :
    Rec.tol (putN (layAt (N : Int) T pg n (256 * n + c) al st) (St.first (Lay.words (N : Int) T).toNat) k).words (N : Int) T kd (p : Int) = if p = pg ∧ j = 1 ∧ n < k then 256 * n + c else if p = pg ∧ j = 3 ∧ n + 1 < k then al else if p = pg ∧ j = 4 ∧ n + 2 < k then 0 else if p = pg ∧ j = 0 ∧ n + 3 < k then st else 0 := by
  obtain ⟨m1, m2, m3, m4⟩ := Lay.may_iff.1 hm
  rw [Rec.tol5 hm (by omega) hkd hj, (back_words hm hn1 hp k hk).at_ p j (by omega) hj, first_zero' _ _ (by unfold Rec.at5; omega)]
theorem back_read0 (hm : Lay.may (N : Int) T = true) (hn1 : 1 ≤ n) (hp : pg + n ≤ N) (k : Nat) (hk : k ≤ n + 3) :
    Rec.read (putN (layAt (N : Int) T pg n (256 * n + c) al st) (St.first (Lay.words (N : Int) T).toNat) k).words (N : Int) T (pg : Int) = (Rec.Sp.zero, false) := by
  have h := back_tol (c := c) (al := al) (st := st) hm hn1 hp k (by omega) pg 0 (by omega) (by omega) 9 rfl
  rw [if_neg (by omega), if_neg (by omega), if_neg (by omega), if_neg (by omega)] at h
  unfold Rec.read
  rw [if_pos h]
/-- The span that was laid. -/
def wantSp (pg n c : Nat) (g : Int) (al : Nat) : Rec.Sp := ⟨(pg : Int), (n : Int), (c : Int), g, 2, al, 0⟩
theorem back_said (hm : Lay.may (N : Int) T = true) (hn1 : 1 ≤ n) (hp : pg + n ≤ N) (hc : c ≤ 14) (hg : Ph.cyc g = true) :
    Rec.said (putN (layAt (N : Int) T pg n (256 * n + c) al (Ph.state g 2)) (St.first (Lay.words (N : Int) T).toNat) (n + 4)).words (N : Int) T (pg : Int) = wantSp pg n c g al := by
  unfold Rec.said wantSp
  rw [back_tol hm hn1 hp (n + 4) (by omega) pg 0 (by omega) (by omega) 9 rfl, back_tol hm hn1 hp (n + 4) (by omega) pg 1 (by omega) (by omega) 10 rfl, back_tol hm hn1 hp (n + 4) (by omega) pg 3 (by omega) (by omega) 12 rfl, back_tol hm hn1 hp (n + 4) (by omega) pg 4 (by omega) (by omega) 13 rfl]
  simp only [show n < n + 4 from by omega, show n + 1 < n + 4 from by omega, show n + 2 < n + 4 from by omega, show n + 3 < n + 4 from by omega, and_true, true_and, if_true, if_false, show ¬ (0 : Nat) = 1 from by omega, show ¬ (0 : Nat) = 3 from by omega, show ¬ (0 : Nat) = 4 from by omega, show ¬ (3 : Nat) = 1 from by omega, show ¬ (4 : Nat) = 1 from by omega, show ¬ (4 : Nat) = 3 from by omega]
  rw [Ph.state_gen hg (by decide), Ph.state_ph hg (by decide)]
  congr 1
  · omega
  · omega
theorem back_list (hm : Lay.may (N : Int) T = true) (hn1 : 1 ≤ n) (hp : pg + n ≤ N) (hc : c ≤ 14) (hg : Ph.cyc g = true) :
    Rec.upto (putN (layAt (N : Int) T pg n (256 * n + c) al (Ph.state g 2)) (St.first (Lay.words (N : Int) T).toNat) (n + 4)).words (N : Int) T N = [wantSp pg n c g al] := by
  have h1 := back_tol (c := c) (al := al) (st := Ph.state g 2) hm hn1 hp (n + 4) (by omega) pg 0 (by omega) (by omega) 9 rfl
  rw [if_neg (by omega), if_neg (by omega), if_neg (by omega), if_pos (by omega)] at h1
  rw [upto_one (pg := pg) (by rw [h1]; exact Ph.state_ne hg (by decide)) N (fun p hpN hne => by
    rw [back_tol hm hn1 hp (n + 4) (by omega) p 0 hpN (by omega) 9 rfl, if_neg (by omega), if_neg (by omega), if_neg (by omega), if_neg (by omega)]), if_pos (by omega), back_said hm hn1 hp hc hg]
theorem back_index (hm : Lay.may (N : Int) T = true) (hn1 : 1 ≤ n) (hp : pg + n ≤ N) (j : Nat) (hj : j < N) :
    (putN (layAt (N : Int) T pg n (256 * n + c) al st) (St.first (Lay.words (N : Int) T).toNat) (n + 4)).words.getD (Rec.atX (N : Int) T j) 0 = if pg ≤ j ∧ j < pg + n then pg + 1 else 0 := by
  obtain ⟨m1, m2, m3, m4⟩ := Lay.may_iff.1 hm
  rw [(back_words hm hn1 hp (n + 4) (by omega)).ix j (by omega), first_zero' _ _ (by unfold Rec.atX; omega)]
  by_cases h : pg ≤ j ∧ j < pg + n
  · rw [if_pos ⟨h.1, h.2, by omega⟩, if_pos h]
  · rw [if_neg (by omega), if_neg h]
/-- The words behind the lay, and k puts of the gone. -/
theorem gone_words (hm : Lay.may (N : Int) T = true) (hn1 : 1 ≤ n) (hp : pg + n ≤ N) (s : St) (hl : s.words.length = (Lay.words (N : Int) T).toNat) : ∀ k, k ≤ n + 1 →
    GoneW (N : Int) T pg n k s.words (putN (goneAt (N : Int) T pg n) s k).words := goneW hm pg n hn1 (by omega) s hl
theorem gone_tol (hm : Lay.may (N : Int) T = true) (hn1 : 1 ≤ n) (hp : pg + n ≤ N) (s : St) (hl : s.words.length = (Lay.words (N : Int) T).toNat) (k : Nat) (hk : k ≤ n + 1) (p j : Nat) (hpN : p < N) (hj : j < 5) (kd : Int) (hkd : kd = 9 + (j : Int)) :
    Rec.tol (putN (goneAt (N : Int) T pg n) s k).words (N : Int) T kd (p : Int) = if p = pg ∧ j = 0 ∧ n < k then 0 else Rec.tol s.words (N : Int) T kd (p : Int) := by
  rw [Rec.tol5 hm (by omega) hkd hj, (gone_words hm hn1 hp s hl k hk).at_ p j (by omega) hj, Rec.tol5 hm (by omega) hkd hj]
theorem gone_read (hm : Lay.may (N : Int) T = true) (hn1 : 1 ≤ n) (hp : pg + n ≤ N) (s : St) (hl : s.words.length = (Lay.words (N : Int) T).toNat) (k : Nat) (hk : k ≤ n) :
    Rec.read (putN (goneAt (N : Int) T pg n) s k).words (N : Int) T (pg : Int) = Rec.read s.words (N : Int) T (pg : Int) := by
  have h : ∀ (j : Nat) (hj : j < 5) (kd : Int) (hkd : kd = 9 + (j : Int)), Rec.tol (putN (goneAt (N : Int) T pg n) s k).words (N : Int) T kd (pg : Int) = Rec.tol s.words (N : Int) T kd (pg : Int) := fun j hj kd hkd => by
    rw [gone_tol hm hn1 hp s hl k (by omega) pg j (by omega) hj kd hkd, if_neg (by omega)]
  unfold Rec.read Rec.said
  rw [h 0 (by omega) 9 rfl, h 1 (by omega) 10 rfl, h 3 (by omega) 12 rfl, h 4 (by omega) 13 rfl]
theorem gone_list (hm : Lay.may (N : Int) T = true) (hn1 : 1 ≤ n) (hp : pg + n ≤ N) (s : St) (hl : s.words.length = (Lay.words (N : Int) T).toNat) (hz : ∀ p : Nat, p < N → p ≠ pg → Rec.tol s.words (N : Int) T 9 (p : Int) = 0) :
    Rec.upto (putN (goneAt (N : Int) T pg n) s (n + 1)).words (N : Int) T N = [] :=
  upto_none N (fun p hpN => by
    rw [gone_tol hm hn1 hp s hl (n + 1) (by omega) p 0 hpN (by omega) 9 rfl]
    by_cases e : p = pg
    · rw [if_pos ⟨e, rfl, by omega⟩]
    · rw [if_neg (fun h => e h.1)]; exact hz p hpN e)
theorem gone_index (hm : Lay.may (N : Int) T = true) (hn1 : 1 ≤ n) (hp : pg + n ≤ N) (s : St) (hl : s.words.length = (Lay.words (N : Int) T).toNat) (v : Nat) (hz : ∀ j : Nat, j < N → s.words.getD (Rec.atX (N : Int) T j) 0 = if pg ≤ j ∧ j < pg + n then v else 0) (j : Nat) (hj : j < N) :
    (putN (goneAt (N : Int) T pg n) s (n + 1)).words.getD (Rec.atX (N : Int) T j) 0 = if pg ≤ j ∧ j < pg + n then 0 else 0 := by
  rw [(gone_words hm hn1 hp s hl (n + 1) (by omega)).ix j (by omega), hz j hj]
  by_cases h : pg ≤ j ∧ j < pg + n
  · rw [if_pos ⟨h.1, h.2, by omega⟩, if_pos h]
  · rw [if_neg (fun h' => h ⟨h'.1, h'.2.1⟩), if_neg h, if_neg h]
end
end Go.Proofs.YtgdliebllmgibaaDoor
