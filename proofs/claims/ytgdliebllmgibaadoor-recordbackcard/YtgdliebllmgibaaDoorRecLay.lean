/- A lay and a gone as rows of puts: which word each of them turns, and what the words are on the way. -/
import Derived.Test.YtgdliebllmgibaaDoorRec
import Derived.Test.YtgdliebllmgibaaDoorStoreCalls
namespace Go.Proofs.YtgdliebllmgibaaDoor
open Go

/-- The put that a lay does as its d-th one. -/
def layAt (P T : Int) (pg n bs al st d : Nat) : Nat × Nat :=
  if d < n then (Rec.atX P T (pg + d), pg + 1) else if d = n then (Rec.at5 T pg + 1, bs) else if d = n + 1 then (Rec.at5 T pg + 3, al) else if d = n + 2 then (Rec.at5 T pg + 4, 0) else (Rec.at5 T pg, st)
def goneAt (P T : Int) (pg n d : Nat) : Nat × Nat := if d < n then (Rec.atX P T (pg + d), 0) else (Rec.at5 T pg, 0)
/-- So many puts of a row. -/
def putN (f : Nat → Nat × Nat) (s : St) : Nat → St
  | 0 => s
  | k + 1 => (putN f s k).put (f k).1 (f k).2
theorem put_words (s : St) (i v : Nat) : (s.put i v).words = s.words.set i v := rfl
theorem putN_len (f : Nat → Nat × Nat) (s : St) : ∀ k, (putN f s k).words.length = s.words.length
  | 0 => rfl
  | k + 1 => by show ((putN f s k).put _ _).words.length = _; rw [put_words, List.length_set]; exact putN_len f s k
theorem getD_set_at (l : List Nat) (i v j : Nat) (hi : i < l.length) : (l.set i v).getD j 0 = if j = i then v else l.getD j 0 := by
  rw [List.getD_eq_getElem?_getD, List.getD_eq_getElem?_getD]
  by_cases e : j = i
  · subst e; simp [hi]
  · rw [if_neg e, List.getElem?_set_ne (Ne.symm e)]
theorem at5_eq (T : Int) (hT : 1 ≤ T ∧ T ≤ 64) (p : Nat) : ∃ t : Nat, T = (t : Int) ∧ Rec.at5 T p = 68 + 14 * t + 5 * p := ⟨T.toNat, by omega, by unfold Rec.at5; omega⟩
theorem at_eqs {P T : Int} (hm : Lay.may P T = true) : ∃ t n : Nat, T = (t : Int) ∧ P = (n : Int) ∧ 1 ≤ n ∧ (∀ p, Rec.at5 T p = 68 + 14 * t + 5 * p) ∧ (∀ p, Rec.atX P T p = 68 + 14 * t + 5 * n + p) ∧ 68 + 14 * t + 6 * n < (Lay.words P T).toNat := by
  obtain ⟨m1, m2, m3, m4⟩ := Lay.may_iff.1 hm
  have mb := Lay.maps_bd m1 m2
  refine ⟨T.toNat, P.toNat, by omega, by omega, by omega, fun p => by unfold Rec.at5; omega, fun p => by unfold Rec.atX; omega, ?_⟩
  rw [Lay.words_in hm]; unfold Lay.total; omega

/-- The words of a lay's pages behind k of its puts. -/
structure LayW (P T : Int) (pg n bs al st k : Nat) (ws0 ws : List Nat) : Prop where
  len : ws.length = ws0.length
  ix : ∀ p : Nat, (p : Int) < P → ws.getD (Rec.atX P T p) 0 = if pg ≤ p ∧ p < pg + n ∧ p < pg + k then pg + 1 else ws0.getD (Rec.atX P T p) 0
  at_ : ∀ (p j : Nat), (p : Int) < P → j < 5 → ws.getD (Rec.at5 T p + j) 0 = if p = pg ∧ j = 1 ∧ n < k then bs else if p = pg ∧ j = 3 ∧ n + 1 < k then al else if p = pg ∧ j = 4 ∧ n + 2 < k then 0 else if p = pg ∧ j = 0 ∧ n + 3 < k then st else ws0.getD (Rec.at5 T p + j) 0
set_option maxHeartbeats 4000000 in
theorem layW {P T : Int} (hm : Lay.may P T = true) (pg n bs al st : Nat) (hn1 : 1 ≤ n) (hp : ((pg + n : Nat) : Int) ≤ P) (s : St) (hl : s.words.length = (Lay.words P T).toNat) : ∀ k, k ≤ n + 4 → LayW P T pg n bs al st k s.words (putN (layAt P T pg n bs al st) s k).words
  | 0, _ => ⟨rfl, fun p hp => by rw [if_neg (by omega)]; rfl, fun p j hp hj => by rw [if_neg (by omega), if_neg (by omega), if_neg (by omega), if_neg (by omega)]; rfl⟩
  | k + 1, hk => by
    obtain ⟨h1, h2, h3⟩ := layW hm pg n bs al st hn1 hp s hl k (by omega)
    obtain ⟨t, N, rfl, rfl, hN, e5, eX, hw⟩ := at_eqs hm
    have hl' : (putN (layAt (N : Int) (t : Int) pg n bs al st) s k).words.length = (Lay.words N t).toNat := by rw [h1, hl]
    generalize (Lay.words (N : Int) (t : Int)).toNat = W at *
    refine ⟨by show (St.put _ _ _).words.length = _; rw [put_words, List.length_set, h1], fun p hpp => ?_, fun p j hpp hj => ?_⟩
    · show (St.put _ _ _).words.getD _ 0 = _
      have hin : (layAt (N : Int) (t : Int) pg n bs al st k).1 < (putN (layAt (N : Int) (t : Int) pg n bs al st) s k).words.length := by
        rw [hl']; unfold layAt; (repeat' split) <;> simp only [e5, eX] <;> omega
      rw [put_words, getD_set_at _ _ _ _ hin, h2 p hpp]
      unfold layAt
      simp only [e5, eX]
      (repeat' split) <;> first | rfl | omega
    · show (St.put _ _ _).words.getD _ 0 = _
      have hin : (layAt (N : Int) (t : Int) pg n bs al st k).1 < (putN (layAt (N : Int) (t : Int) pg n bs al st) s k).words.length := by
        rw [hl']; unfold layAt; (repeat' split) <;> simp only [e5, eX] <;> omega
      rw [put_words, getD_set_at _ _ _ _ hin, h3 p j hpp hj]
      unfold layAt
      simp only [e5, eX]
      (repeat' split) <;> first | rfl | omega
/-- The words of a gone's pages behind k of its puts. -/
structure GoneW (P T : Int) (pg n k : Nat) (ws0 ws : List Nat) : Prop where
  len : ws.length = ws0.length
  ix : ∀ p : Nat, (p : Int) < P → ws.getD (Rec.atX P T p) 0 = if pg ≤ p ∧ p < pg + n ∧ p < pg + k then 0 else ws0.getD (Rec.atX P T p) 0
  at_ : ∀ (p j : Nat), (p : Int) < P → j < 5 → ws.getD (Rec.at5 T p + j) 0 = if p = pg ∧ j = 0 ∧ n < k then 0 else ws0.getD (Rec.at5 T p + j) 0
set_option maxHeartbeats 4000000 in
theorem goneW {P T : Int} (hm : Lay.may P T = true) (pg n : Nat) (hn1 : 1 ≤ n) (hp : ((pg + n : Nat) : Int) ≤ P) (s : St) (hl : s.words.length = (Lay.words P T).toNat) : ∀ k, k ≤ n + 1 → GoneW P T pg n k s.words (putN (goneAt P T pg n) s k).words
  | 0, _ => ⟨rfl, fun p hp => by rw [if_neg (by omega)]; rfl, fun p j hp hj => by rw [if_neg (by omega)]; rfl⟩
  | k + 1, hk => by
    obtain ⟨h1, h2, h3⟩ := goneW hm pg n hn1 hp s hl k (by omega)
    obtain ⟨t, N, rfl, rfl, hN, e5, eX, hw⟩ := at_eqs hm
    have hl' : (putN (goneAt (N : Int) (t : Int) pg n) s k).words.length = (Lay.words N t).toNat := by rw [h1, hl]
    generalize (Lay.words (N : Int) (t : Int)).toNat = W at *
    refine ⟨by show (St.put _ _ _).words.length = _; rw [put_words, List.length_set, h1], fun p hpp => ?_, fun p j hpp hj => ?_⟩
    · show (St.put _ _ _).words.getD _ 0 = _
      have hin : (goneAt (N : Int) (t : Int) pg n k).1 < (putN (goneAt (N : Int) (t : Int) pg n) s k).words.length := by
        rw [hl']; unfold goneAt; (repeat' split) <;> simp only [e5, eX] <;> omega
      rw [put_words, getD_set_at _ _ _ _ hin, h2 p hpp]
      unfold goneAt
      simp only [e5, eX]
      (repeat' split) <;> first | rfl | omega
    · show (St.put _ _ _).words.getD _ 0 = _
      have hin : (goneAt (N : Int) (t : Int) pg n k).1 < (putN (goneAt (N : Int) (t : Int) pg n) s k).words.length := by
        rw [hl']; unfold goneAt; (repeat' split) <;> simp only [e5, eX] <;> omega
      rw [put_words, getD_set_at _ _ _ _ hin, h3 p j hpp hj]
      unfold goneAt
      simp only [e5, eX]
      (repeat' split) <;> first | rfl | omega
end Go.Proofs.YtgdliebllmgibaaDoor
