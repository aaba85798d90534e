/- Is nobody at it? (law12's rest.) Pages, each once more (law12's count). A thread's machine comes out of the game, and another one goes back. A step of a pop, of a push, of the game, whatever it is: on its way, or done. The game of the law StackOnce on its way: what threads' machines, their rows, the words, and who has which page, have to do with one another. A page more on a thread's list: a new row in the old one's place. The program's List of a stack, its row by itself (StkList's contract, which says besides that the row is new). StackOnce behind its loop: how often each page was seen, the contracts of what counts. -/
import Derived.Test.YtafamfjgehnddaaStkGame
import Derived.Test.YtafamfjgehnddaaPL
import Derived.Test.YtafamfjgehnddaaPM
import Derived.Test.YtafamfjgehnddaaGameNew
import Derived.Test.YtafamfjgehnddaaPX
import Derived.Test.YtafamfjgehnddaaPhaseL
import Derived.Test.YtafamfjgehnddaaPK
import Derived.Test.YtafamfjgehnddaaPG
namespace Go.Proofs.Ytafamfjgehnddaa
open Go Go.RowKit
def onV (S : Nat → MS) (j : Nat) : Value := .bool (S j).on
set_option maxRecDepth 100000 in
theorem lawRest (w : World) (gb q a gH gM gO gP n : Nat) (on : Nat → Bool) (hn : n ≤ 6) (hg : w.heap[gb]? = some (gameO q a gH gM gO gP n)) (ho : ∀ j, j < n → w.cell? ⟨gO, j, none⟩ = some (.bool (on j))) (d : Bool) (hd : (∀ j, j < n → on j = false) ↔ d = true) :
    Calls Try.prog 8 #[.pointer (some ⟨gb, 0, none⟩)] w fun e w' => e = .returned (.bool d) ∧ w' = w := by
  have c4 : w.cell? ⟨gb, 4, none⟩ = some (.slice (some ⟨gO, 0, none⟩) n n) := cell_of_heap hg
  have HO := hide ho
  have HD := hide hd
  clear hg ho hd
  go_enter Try.func8, Try.ntmps8
  go_wp2
  go_loopw [3] (fun i wr => ∃ k : Nat, k ≤ n ∧ i = .int .i64 (k : Int) ∧ Hid ((∀ j, j < k → on j = false) ∧ wr = w)) (fun i _ => n - (intOf i).toNat)
  case atStart => exact ⟨0, Nat.zero_le _, rfl, ⟨fun j hj => by omega, rfl⟩⟩
  case round =>
    obtain ⟨k, hk, rfl, hal⟩ := hrel
    obtain ⟨hal1, hal2⟩ := hal.out
    subst hal2
    by_cases hlt : k < n
    · have x1 := HO.out k hlt
      by_cases he : on k = true
      · have hd1 : d = false := by
          cases hdd : d with
          | false => rfl
          | true => have := HD.out.2 hdd k hlt; rw [he] at this; cases this
        rw [he] at x1
        subst hd1
        clear hal hal1 he HD
        go_wp2
        go_ret
        exact ⟨rfl, rfl⟩
      · have he' : on k = false := by cases h : on k with | false => rfl | true => exact absurd h he
        rw [he'] at x1
        have hnext : Hid ((∀ j, j < k + 1 → on j = false) ∧ wr = wr) := hide ⟨fun j hj => by
          rcases Nat.lt_or_ge j k with h | h
          · exact hal1 j h
          · obtain rfl : j = k := by omega
            exact he', rfl⟩
        clear hal hal1 he HD
        go_wp2
        exact ⟨⟨k + 1, by omega, by simp, hide ⟨hnext.out.1, trivial⟩⟩, by simp [intOf]; omega⟩
    · obtain rfl : k = n := by omega
      have hd1 : d = true := HD.out.1 hal1
      subst hd1
      clear hal hal1 HD HO
      go_wp2
      go_ret
      exact ⟨rfl, rfl⟩
section
variable {R : Res} {w0 w : World} {q : Nat} {P T : Int} {p r : Nat} {s : St} {pg : Nat} {ds : List Nat} {dn : Nat} {L : RL}
set_option maxRecDepth 100000 in
set_option maxRecDepth 100000 in
/-- law12's Read of a word that is there. -/
theorem lawRead (lR : Loc R) (h : Own (Sep (AX q P T p r s pg ds dn L) R) w0 w) (i : Nat) (hi : i < s.words.length) :
    Calls Try.prog 19 #[.pointer (some ⟨q, 0, none⟩), .int .i64 (i : Int)] w fun e w' => e = .returned (.int .u64 (s.words.getD i 0 : Int)) ∧ Own (Sep (AX q P T p r s pg ds dn L) R) w0 w' := by
  obtain ⟨b, hS⟩ := AX.st h
  have H1 := hide (storeX h)
  have H2 := hide (words_of w p b s hS)
  have O := hide h
  have lA : Loc (Sep (AX q P T p r s pg ds dn L) R) := Loc.ax.sep lR
  have HI := hide hi
  obtain ⟨x, hx⟩ : ∃ x, s.words.getD i 0 = x := ⟨_, rfl⟩
  have HX := hide hx
  rw [hx]
  clear hx
  obtain ⟨len, hlen⟩ : ∃ len, s.words.length = len := ⟨_, rfl⟩
  have HLN := hide hlen
  rw [hlen] at hi
  clear h hS hlen
  go_enter Try.func19, Try.ntmps19
  go_wp2_with fail
  refine H1.out.mono ?_
  rintro e w1 ⟨rfl, rfl⟩
  go_wp2_with fail
  refine H2.out.mono ?_
  rintro e w2 ⟨g, rfl, hw, hge, hb⟩
  rw [HLN.out]
  have z : w2.cell? ⟨g, i, none⟩ = some (.int .u64 (x : Int)) := by
    rw [← HX.out]
    exact (cell_of_heap hw.row).trans (wordVals_get _ _ HI.out)
  have O2 := hide (O.out.below lA hb)
  clear hw hge hb H1 H2 O
  go_wp2_with fail
  go_ret
  exact ⟨rfl, O2.out⟩
end
end Go.Proofs.Ytafamfjgehnddaa

namespace Go.Proofs.Ytafamfjgehnddaa
open Go Go.RowKit
def cntV (c : Nat → Nat) (j : Nat) : Value := .int .i64 (c j : Int)
def addC (c : Nat → Nat) (l : List Int) (j : Nat) : Nat := c j + l.count (j : Int)
theorem addC_nil (c : Nat → Nat) : addC c [] = c := by funext j; simp [addC]
theorem addC_step (c : Nat → Nat) (l : List Int) {k x : Nat} (hk : k < l.length) (hx : l.getD k 0 = (x : Int)) : upd (cntV (addC c (l.take k))) x (.int .i64 ((addC c (l.take k) x : Int) + 1)) = cntV (addC c (l.take (k + 1))) := by
  have e : l.take (k + 1) = l.take k ++ [(x : Int)] := by
    rw [List.take_add_one, ← hx, List.getD_eq_getElem?_getD, List.getElem?_eq_getElem hk]; rfl
  funext j
  unfold upd cntV addC
  rw [e, List.count_append]
  by_cases h : j = x
  · subst h; simp; omega
  · rw [if_neg h]
    have : List.count (j : Int) [(x : Int)] = 0 := by rw [List.count_singleton]; simp; omega
    rw [this]; rfl
set_option maxRecDepth 100000 in
theorem lawCount {R : Res} {w0 w : World} (lR : Loc R) (gs n : Nat) (c : Nat → Nat) (ao : Option Addr) (l : List Int) (cap : Nat) (h : Own (Sep (BO gs (.cells (rowN n (cntV c)) 3 (0, 0))) R) w0 w)
    (hao : l ≠ [] → ∃ g, ao = some ⟨g, 0, none⟩ ∧ ∀ c u, Own (Sep (BO gs (.cells (rowN n (cntV c)) 3 (0, 0))) R) w0 u → ∀ j, j < l.length → u.cell? ⟨g, j, none⟩ = some (.int .i64 (l.getD j 0)))
    (hin : ∀ k, k < l.length → 0 ≤ l.getD k 0 ∧ l.getD k 0 < n) (hc : ∀ j, c j ≤ 1000) (hl : l.length ≤ 1000) :
    Calls Try.prog 15 #[.slice (some ⟨gs, 0, none⟩) n n, .slice ao l.length cap] w fun e w' => e = .returned (.bool true) ∧ Own (Sep (BO gs (.cells (rowN n (cntV (addC c l))) 3 (0, 0))) R) w0 w' := by
  have H1 := hide hao
  have HI := hide hin
  have HC := hide hc
  have O : Hid (Own (Sep (BO gs (.cells (rowN n (cntV (addC c (l.take 0)))) 3 (0, 0))) R) w0 w) := hide (by rw [List.take_zero, addC_nil]; exact h)
  obtain ⟨m, hm⟩ : ∃ m, l.length = m := ⟨_, rfl⟩
  have HM := hide hm
  rw [hm] at hl ⊢
  clear h hm hao hin hc
  go_enter Try.func15, Try.ntmps15
  go_wp2
  go_loopw [5] (fun i wr => ∃ k : Nat, k ≤ m ∧ i = .int .i64 (k : Int) ∧ Hid (Own (Sep (BO gs (.cells (rowN n (cntV (addC c (l.take k)))) 3 (0, 0))) R) w0 wr)) (fun i _ => m - (intOf i).toNat)
  case atStart => exact ⟨0, Nat.zero_le _, rfl, O⟩
  case round =>
    obtain ⟨k, hk, rfl, OK⟩ := hrel
    by_cases hlt : k < m
    · have hkl : k < l.length := by rw [HM.out]; exact hlt
      have hne : l ≠ [] := fun e => by rw [e] at hkl; simp at hkl
      obtain ⟨g1, rfl, q1⟩ := H1.out hne
      obtain ⟨x, hx⟩ : ∃ x : Nat, l.getD k 0 = (x : Int) := ⟨(l.getD k 0).toNat, by have := (HI.out k hkl).1; omega⟩
      have hxn : x < n := by have := (HI.out k hkl).2; omega
      have x1 : wr.cell? ⟨g1, k, none⟩ = some (.int .i64 (x : Int)) := by rw [← hx]; exact q1 _ _ OK.out k hkl
      obtain ⟨y, hy⟩ : ∃ y, addC c (l.take k) x = y := ⟨_, rfl⟩
      have hyb : y ≤ 2000 := by
        rw [← hy]
        have := HC.out x
        have := List.count_le_length (a := (x : Int)) (l := l.take k)
        rw [List.length_take] at this
        unfold addC; omega
      have x2 : wr.cell? ⟨gs, x, none⟩ = some (.int .i64 (y : Int)) := (cell_of_heap (Own.boAt OK.out)).trans ((rowN_get _ hxn).trans (by rw [← hy]; rfl))
      have x3 : wr.frozen? ⟨gs, x, none⟩ = false := frozen_of_heap (Own.boAt OK.out)
      have ON : Hid (Own (Sep (BO gs (.cells (rowN n (cntV (addC c (l.take (k + 1))))) 3 (0, 0))) R) w0 (wr.setCell ⟨gs, x, none⟩ (.int .i64 ((y : Int) + 1)))) := hide (by
        have := Own.boSet lR OK.out x (.int .i64 ((y : Int) + 1))
        rw [rowN_set, ← hy, addC_step c l hkl hx] at this
        rw [← hy]; exact this)
      clear q1 OK hne hkl H1 hx hy O
      go_wp2
      go_roundw
      case rel => exact ⟨k + 1, by omega, by go_num, ON⟩
      case measure => simp [intOf]; omega
    · obtain rfl : k = m := by omega
      have OE : Hid (Own (Sep (BO gs (.cells (rowN n (cntV (addC c l))) 3 (0, 0))) R) w0 wr) := hide (by have := OK.out; rw [List.take_of_length_le (by rw [HM.out]; exact Nat.le_refl _)] at this; exact this)
      clear OK H1 O
      go_wp2
      go_ret
      exact ⟨rfl, OE.out⟩
end Go.Proofs.Ytafamfjgehnddaa

namespace Go.Proofs.Ytafamfjgehnddaa
open Go Go.RowKit
section
variable {R : Res} {gb q p r a p' r' gH gM gO gP pg n t : Nat} {s s2 : St} {rl : RL} {hv mv ov pv : Nat → Value} {L : Nat → List Int} {S : Nat → MS}
/-- What lies beside a thread's machine and the program's arena. -/
def SideB (gb q a p' r' gH gM gO gP pg n : Nat) (s2 : St) (rl : RL) (hv mv ov pv : Nat → Value) (L : Nat → List Int) (S : Nat → MS) (t : Nat) (R : Res) : Res :=
  Sep (BO gb (gameO q a gH gM gO gP n)) (Sep (BO gH (.cells (rowN n hv) 54 (0, 0))) (Sep (BO gM (.cells (rowN (n * 3) mv) 47 (0, 0))) (Sep (BO gO (.cells (rowN n ov) 4 (0, 0))) (Sep (BO gP (.cells (rowN n pv) 4 (0, 0)))
    (Sep (MX a (pg : Int) (n : Int) p' r' s2 pg [] 1 rl) (Sep (Many (hvR hv L) n) (Sep (Many (upd (msR (pg : Int) (n : Int) S) t Nought) n) R)))))))
theorem Loc.sideB (l : Loc R) : Loc (SideB gb q a p' r' gH gM gO gP pg n s2 rl hv mv ov pv L S t R) := Loc.bo.sep (Loc.bo.sep (Loc.bo.sep (Loc.bo.sep (Loc.bo.sep (Loc.mx.sep ((Loc.many (fun _ => Loc.hvR) n).sep ((Loc.rest Loc.ms t n).sep l)))))))
theorem GameB.mOut (ht : t < n) : GameB gb q p r a p' r' gH gM gO gP pg n s s2 rl hv mv ov pv L S R = Sep ((S t).res (pg : Int) (n : Int)) (Sep (AX q (pg : Int) (n : Int) p r s pg [] 1 rl) (SideB gb q a p' r' gH gM gO gP pg n s2 rl hv mv ov pv L S t R)) := by
  unfold GameB SideB
  rw [Many.at (msR (pg : Int) (n : Int) S) t n ht]
  show Sep _ (Sep _ (Sep _ (Sep _ (Sep _ (Sep _ (Sep _ (Sep _ (Sep (Sep ((S t).res (pg : Int) (n : Int)) _) _)))))))) = _
  ac_rfl
theorem GameB.mTurn (ht : t < n) (x : MS) : Sep (x.res (pg : Int) (n : Int)) (Sep (AX q (pg : Int) (n : Int) p r s pg [] 1 rl) (SideB gb q a p' r' gH gM gO gP pg n s2 rl hv mv ov pv L S t R)) = GameB gb q p r a p' r' gH gM gO gP pg n s s2 rl hv mv ov pv L (upd S t x) R := by
  unfold GameB SideB
  rw [msR_upd, Many.put (msR (pg : Int) (n : Int) S) t (x.res (pg : Int) (n : Int)) n ht]
  ac_rfl
/-- A pop of the game, taken out with what stands in its way. -/
theorem GameB.popOut (ht : t < n) {m b h : Nat} {v : MV} {l : List Nat} {M : PopS} (hS : S t = .pop m b v l h M) : GameB gb q p r a p' r' gH gM gO gP pg n s s2 rl hv mv ov pv L S R = Sep (BO m (popO (pg : Int) (n : Int) ((hdw h : Nat) : Int) M.g M.was M.page M.below)) (Sep (AX q (pg : Int) (n : Int) p r s pg [] 1 rl) (Sep (Sep (BO b (mObj (kPop (pg : Int) (n : Int) ((hdw h : Nat) : Int) 0) v)) (LogR v.log l)) (SideB gb q a p' r' gH gM gO gP pg n s2 rl hv mv ov pv L S t R))) := by
  rw [GameB.mOut ht, hS]
  show Sep (Sep _ (Sep _ _)) _ = _
  ac_rfl
theorem GameB.pushTake (ht : t < n) {m b h : Nat} {v : MV} {l : List Nat} {M : PushS} (hS : S t = .push m b v l h M) : GameB gb q p r a p' r' gH gM gO gP pg n s s2 rl hv mv ov pv L S R = Sep (BO m (pushO (pg : Int) (n : Int) ((hdw h : Nat) : Int) M.g M.was M.page)) (Sep (AX q (pg : Int) (n : Int) p r s pg [] 1 rl) (Sep (Sep (BO b (mObj (kPush (pg : Int) (n : Int) ((hdw h : Nat) : Int) M.page) v)) (LogR v.log l)) (SideB gb q a p' r' gH gM gO gP pg n s2 rl hv mv ov pv L S t R))) := by
  rw [GameB.mOut ht, hS]
  show Sep (Sep _ (Sep _ _)) _ = _
  ac_rfl
theorem GameB.popBack (ht : t < n) (m b h : Nat) (v : MV) (l : List Nat) (M : PopS) : Sep (BO m (popO (pg : Int) (n : Int) ((hdw h : Nat) : Int) M.g M.was M.page M.below)) (Sep (AX q (pg : Int) (n : Int) p r s pg [] 1 rl) (Sep (Sep (BO b (mObj (kPop (pg : Int) (n : Int) ((hdw h : Nat) : Int) 0) v)) (LogR v.log l)) (SideB gb q a p' r' gH gM gO gP pg n s2 rl hv mv ov pv L S t R))) = GameB gb q p r a p' r' gH gM gO gP pg n s s2 rl hv mv ov pv L (upd S t (.pop m b v l h M)) R := by
  rw [← GameB.mTurn ht]
  show _ = Sep (Sep _ (Sep _ _)) _
  ac_rfl
theorem GameB.pushBack (ht : t < n) (m b h : Nat) (v : MV) (l : List Nat) (M : PushS) : Sep (BO m (pushO (pg : Int) (n : Int) ((hdw h : Nat) : Int) M.g M.was M.page)) (Sep (AX q (pg : Int) (n : Int) p r s pg [] 1 rl) (Sep (Sep (BO b (mObj (kPush (pg : Int) (n : Int) ((hdw h : Nat) : Int) M.page) v)) (LogR v.log l)) (SideB gb q a p' r' gH gM gO gP pg n s2 rl hv mv ov pv L S t R))) = GameB gb q p r a p' r' gH gM gO gP pg n s s2 rl hv mv ov pv L (upd S t (.push m b v l h M)) R := by
  rw [← GameB.mTurn ht]
  show _ = Sep (Sep _ (Sep _ _)) _
  ac_rfl
end
end Go.Proofs.Ytafamfjgehnddaa

namespace Go.Proofs.Ytafamfjgehnddaa
open Go Go.RowKit

section
variable {n : Nat} {P T : Int} {G : GS} {t h : Nat} {s : St}
theorem PopIn.g {M : PopS} (hi : PopIn P G h M) : M.g = 0 ∨ M.g = 1 ∨ M.g = 2 := by
  rcases hi.2.2 with g | ⟨g, _⟩ | ⟨g, _⟩
  · exact .inl g
  · exact .inr (.inl g)
  · exact .inr (.inr g)
theorem PushIn.g {M : PushS} (hi : PushIn P T G h M) : M.g = 0 ∨ M.g = 1 ∨ M.g = 2 := by
  rcases hi.2.2.2.2 with g | ⟨g, _⟩ | ⟨g, _⟩
  · exact .inl g
  · exact .inr (.inl g)
  · exact .inr (.inr g)
theorem pop_any (hn6 : n ≤ 6) (hG : GOk n P T G) (ht : t < n) {M : PopS} (hm : G.m t = .pop h M) (hs : s.words = G.ws) (htn : G.tn h + 1 < 4294967296) :
    ∃ G' M' s', popN P T (hdw h) M s = (M', s') ∧ ((M'.g ≠ 3 ∧ Stepped n P T G G' t h s' (.pop h M') (G.hv t)) ∨ (M'.g = 3 ∧ M'.page = -1 ∧ Stepped n P T G G' t h s' .off (G.hv t)) ∨ (M'.g = 3 ∧ 0 ≤ M'.page ∧ Stepped n P T G G' t h s' .off (G.hv t ++ [M'.page]))) := by
  have hi := hG.mc t ht
  rw [hm] at hi
  rcases PopIn.g hi with g | g | g
  · obtain ⟨G', hS, h3, hg⟩ := pop_one hG ht hm g hs
    refine ⟨G', (popN P T (hdw h) M s).1, (popN P T (hdw h) M s).2, rfl, ?_⟩
    rcases hg with hg | hg
    · rw [if_neg (by rw [hg]; decide)] at hS
      exact .inl ⟨by rw [hg]; decide, hS⟩
    · rw [if_pos hg] at hS
      exact .inr (.inl ⟨hg, h3 hg, hS⟩)
  · obtain ⟨G', hS, hg⟩ := pop_two hG ht hm g hs
    exact ⟨G', (popN P T (hdw h) M s).1, (popN P T (hdw h) M s).2, rfl, .inl ⟨by rw [hg]; decide, hS⟩⟩
  · by_cases he : s.words.getD (hdw h) 0 = M.was
    · obtain ⟨G', hS, hg, hp, h0⟩ := pop_win hn6 hG ht hm g hs he htn
      exact ⟨G', (popN P T (hdw h) M s).1, (popN P T (hdw h) M s).2, rfl, .inr (.inr ⟨hg, by rw [hp]; exact h0, by rw [hp]; exact hS⟩)⟩
    · obtain ⟨G', hS, hg⟩ := pop_miss hG ht hm g hs he
      exact ⟨G', (popN P T (hdw h) M s).1, (popN P T (hdw h) M s).2, rfl, .inl ⟨by rw [hg]; decide, hS⟩⟩
theorem push_any (hn6 : n ≤ 6) (hG : GOk n P T G) (ht : t < n) {M : PushS} (hm : G.m t = .push h M) (hs : s.words = G.ws) (htn : G.tn h + 1 < 4294967296) :
    ∃ G' M' s', pushN P T (hdw h) M s = (M', s') ∧ ((M'.g ≠ 3 ∧ Stepped n P T G G' t h s' (.push h M') (G.hv t)) ∨ (M'.g = 3 ∧ Stepped n P T G G' t h s' .off (G.hv t))) := by
  have hi := hG.mc t ht
  rw [hm] at hi
  rcases PushIn.g hi with g | g | g
  · obtain ⟨G', hS, hg⟩ := push_one hG ht hm g hs
    exact ⟨G', (pushN P T (hdw h) M s).1, (pushN P T (hdw h) M s).2, rfl, .inl ⟨by rw [hg]; decide, hS⟩⟩
  · obtain ⟨G', hS, hg⟩ := push_two hG ht hm g hs
    exact ⟨G', (pushN P T (hdw h) M s).1, (pushN P T (hdw h) M s).2, rfl, .inl ⟨by rw [hg]; decide, hS⟩⟩
  · by_cases he : s.words.getD (hdw h) 0 = M.was
    · obtain ⟨G', hS, hg⟩ := push_win hn6 hG ht hm g hs he htn
      exact ⟨G', (pushN P T (hdw h) M s).1, (pushN P T (hdw h) M s).2, rfl, .inr ⟨hg, hS⟩⟩
    · obtain ⟨G', hS, hg⟩ := push_miss hG ht hm g hs he
      exact ⟨G', (pushN P T (hdw h) M s).1, (pushN P T (hdw h) M s).2, rfl, .inl ⟨by rw [hg]; decide, hS⟩⟩
end
/-- What is left to do is little. -/
theorem left_bd {n : Nat} (hn6 : n ≤ 6) (G : GS) : G.left n ≤ 126 := by
  unfold GS.left
  have h := sumN_bd (f := fun t => (G.m t).left G) (c := 21) n (fun t _ => by
    show (G.m t).left G ≤ 21
    cases G.m t with
    | off => show 0 ≤ 21; omega
    | pop k M => show 18 - M.g.toNat + stale G k M.g M.was ≤ 21; unfold stale; split <;> omega
    | push k M => show 18 - M.g.toNat + stale G k M.g M.was ≤ 21; unfold stale; split <;> omega)
  have : n * 21 ≤ 6 * 21 := Nat.mul_le_mul_right 21 hn6
  omega
/-- No thread has more pages than there are. -/
theorem len_le_of_count (N : Nat) : ∀ l : List Int, (∀ p : Int, l.count p ≤ if 0 ≤ p ∧ p < (N : Int) then 1 else 0) → l.length ≤ N := by
  induction N with
  | zero =>
    intro l h
    cases l with
    | nil => simp
    | cons a r =>
      have := h a
      rw [if_neg (by omega)] at this
      have h1 : 1 ≤ (a :: r).count a := List.one_le_count_iff.2 (by simp)
      omega
  | succ N ih =>
    intro l h
    have hf := ih (l.filter (fun x => decide (x ≠ (N : Int)))) (fun p => by
      by_cases e : p = (N : Int)
      · subst e
        rw [List.count_eq_zero.2 (by simp)]; exact Nat.zero_le _
      · have h1 := List.count_filter (l := l) (p := fun x => decide (x ≠ (N : Int))) (a := p) (by simpa using e)
        rw [h1]
        have := h p
        split
        · rename_i q; rw [if_pos (by omega)] at this; exact this
        · rename_i q; rw [if_neg (by omega)] at this; exact this)
    have hc := h (N : Int)
    rw [if_pos (by omega)] at hc
    have hl := List.length_eq_countP_add_countP (fun x => decide (x ≠ (N : Int))) (l := l)
    rw [← List.countP_eq_length_filter] at hf
    have h2 : l.countP (fun x => decide ¬(decide (x ≠ (N : Int)) = true)) = l.count (N : Int) := by
      rw [List.count_eq_countP]
      congr 1
      funext x
      rw [Bool.eq_iff_iff]
      simp
    omega
theorem hv_len {n pg : Nat} {T : Int} {G : GS} (hG : GOk n (pg : Int) T G) {t : Nat} (ht : t < n) : (G.hv t).length ≤ pg :=
  len_le_of_count pg _ (fun p => by
    have h := hG.pages p
    unfold GS.tot at h
    have h1 := sumN_one (f := fun j => (G.hv j).count p) (t := t) n ht
    have h2 : List.count p (G.hv t) ≤ sumN n (fun j => (G.hv j).count p) := h1
    omega)

/-- How far the rounds behind the drawn ones have come: threads just passed are off. -/
def Pot (n drawn i : Nat) (left : Nat) (on : Nat → Bool) : Prop := drawn < i → ∃ e, e < n ∧ e ≤ i - drawn ∧ i - drawn + n * left ≤ n * 126 + e ∧ ∀ x, x < e → on ((i - 1 - x) % n) = false
theorem Pot.step {n drawn i l l' : Nat} {on on' : Nat → Bool} (hn : 0 < n) (h : Pot n drawn i l on) (hl : l' + 1 ≤ l) (hb : l ≤ 126) : Pot n drawn (i + 1) l' on' := fun hi => by
  refine ⟨0, hn, Nat.zero_le _, ?_, fun x hx => absurd hx (by omega)⟩
  have h1 : n * (l' + 1) ≤ n * l := Nat.mul_le_mul_left n hl
  have h2 : n * l ≤ n * 126 := Nat.mul_le_mul_left n hb
  rw [Nat.mul_add] at h1
  by_cases hd : drawn < i
  · obtain ⟨e, he, _, h3, _⟩ := h hd
    omega
  · omega
theorem Pot.pass {n drawn i l : Nat} {on : Nat → Bool} (hn : 0 < n) (h : Pot n drawn i l on) (hd : drawn ≤ i) (hb : l ≤ 126) (hoff : on (i % n) = false) (hne : ¬ ∀ j, j < n → on j = false) : Pot n drawn (i + 1) l on := fun _ => by
  have h2 : n * l ≤ n * 126 := Nat.mul_le_mul_left n hb
  have all : ∀ e, (∀ x, x < e → on ((i - 1 - x) % n) = false) → i ≥ e → e + 1 ≥ n → False := fun e h1 hie hen => hne (fun j hj => by
    -- one of i, i - 1, .. i - e is j round n
    have hk : ∃ y, y ≤ e ∧ (i - y) % n = j := by
      have hi := Nat.div_add_mod i n
      have hm := Nat.mod_lt i hn
      by_cases c : j ≤ i % n
      · refine ⟨i % n - j, by omega, ?_⟩
        have : i - (i % n - j) = n * (i / n) + j := by omega
        rw [this, Nat.mul_add_mod, Nat.mod_eq_of_lt hj]
      · by_cases c2 : i < n
        · -- i % n = i < j: then e + 1 >= n > i, so e > i: not so
          rw [Nat.mod_eq_of_lt c2] at c
          omega
        · have hq : 1 ≤ i / n := (Nat.one_le_div_iff hn).2 (by omega)
          refine ⟨i % n + n - j, by omega, ?_⟩
          have h3 : n * (i / n) = n * (i / n - 1) + n := by
            obtain ⟨q, hq'⟩ : ∃ q, i / n = q + 1 := ⟨i / n - 1, by omega⟩
            rw [hq']; simp [Nat.mul_add]
          have : i - (i % n + n - j) = n * (i / n - 1) + j := by omega
          rw [this, Nat.mul_add_mod, Nat.mod_eq_of_lt hj]
    obtain ⟨y, hy, hyj⟩ := hk
    rw [← hyj]
    rcases Nat.eq_zero_or_pos y with rfl | hp
    · exact hoff
    · have := h1 (y - 1) (by omega)
      rw [show i - 1 - (y - 1) = i - y by omega] at this
      exact this)
  have go : ∀ e, e < n → e ≤ i - drawn → i - drawn + n * l ≤ n * 126 + e → (∀ x, x < e → on ((i - 1 - x) % n) = false) → ∃ e', e' < n ∧ e' ≤ i + 1 - drawn ∧ i + 1 - drawn + n * l ≤ n * 126 + e' ∧ ∀ x, x < e' → on ((i + 1 - 1 - x) % n) = false := by
    intro e he h0 h3 h4
    by_cases hen : e + 1 < n
    · refine ⟨e + 1, hen, by omega, by omega, fun x hx => ?_⟩
      cases x with
      | zero => exact hoff
      | succ x =>
        rw [show i + 1 - 1 - (x + 1) = i - 1 - x by omega]
        exact h4 x (by omega)
    · exact (all e h4 (by omega) (by omega)).elim
  by_cases hd' : drawn < i
  · obtain ⟨e, he, h0, h3, h4⟩ := h hd'
    exact go e he h0 h3 h4
  · exact go 0 (by omega) (by omega) (by omega) (fun x hx => absurd hx (by omega))
/-- The rounds come to an end. -/
theorem Pot.end {n drawn i l : Nat} {on : Nat → Bool} (hn6 : n ≤ 6) (h : Pot n drawn i l on) : i < drawn + 3000 := by
  by_cases hd : drawn < i
  · obtain ⟨e, he, _, h3, _⟩ := h hd
    have : n * 126 ≤ 6 * 126 := Nat.mul_le_mul_right 126 hn6
    omega
  · omega
end Go.Proofs.Ytafamfjgehnddaa

namespace Go.Proofs.Ytafamfjgehnddaa
open Go Go.RowKit

theorem pushN_page (P T : Int) (i : Nat) (M : PushS) (s : St) : (pushN P T i M s).1.page = M.page := by
  unfold pushN
  split
  · rfl
  · split <;> rfl
structure On12 (n pg : Nat) (G : GS) (s : St) (mv ov pv : Nat → Value) (S : Nat → MS) : Prop where
  ok : GOk n (pg : Int) (n : Int) G
  ws : s.words = G.ws
  mc : ∀ j, j < n → G.m j = (S j).mc
  at_ : ∀ j, j < n → (S j).at mv j
  on : ∀ j, j < n → ov j = .bool (S j).on
  pv : ∀ j, j < n → ∃ b, pv j = .bool b
def tnV (tn : Nat → Nat) (h : Nat) : Value := .int .u32 (tn h : Int)
theorem tnV_upd (tn : Nat → Nat) (h x : Nat) : upd (tnV tn) h (.int .u32 (x : Int)) = tnV (upd tn h x) := by
  funext j; unfold tnV upd; split <;> rfl
section
variable {n pg t h : Nat} {G G' : GS} {s s' : St} {mv ov pv : Nat → Value} {S : Nat → MS}
theorem MS.at_off {t : Nat} {mv : Nat → Value} : ∀ {x : MS}, x.at mv t → MS.off.at mv t
  | .off, k => k
  | .pop _ _ _ _ _ _, ⟨a, b, c⟩ => ⟨_, _, _, a, b, c⟩
  | .push _ _ _ _ _ _, ⟨a, b, c⟩ => ⟨_, _, _, a, b, c⟩
theorem MS.on_off {x : MS} (h : x.on = false) : x = .off := by cases x <;> first | rfl | cases h
/-- A step of a thread that goes on. -/
theorem On12.go (H : On12 n pg G s mv ov pv S) (ht : t < n) {x' : MS} (hS : Stepped n (pg : Int) (n : Int) G G' t h s' x'.mc (G.hv t)) (hx : x'.at mv t) (hon : x'.on = (S t).on) : On12 n pg G' s' mv ov pv (upd S t x') ∧ G'.hv = G.hv := by
  refine ⟨⟨hS.ok, hS.ws.symm, fun j hj => ?_, fun j hj => ?_, fun j hj => ?_, H.pv⟩, by rw [hS.hv]; exact upd_id _ _⟩
  · rw [hS.m]
    by_cases e : j = t
    · subst e; rw [upd_at, upd_at]
    · rw [upd_ne _ _ e, upd_ne _ _ e]; exact H.mc j hj
  · by_cases e : j = t
    · subst e; rw [upd_at]; exact hx
    · rw [upd_ne _ _ e]; exact H.at_ j hj
  · by_cases e : j = t
    · subst e; rw [upd_at, hon]; exact H.on j hj
    · rw [upd_ne _ _ e]; exact H.on j hj
/-- A step of a thread that is done. -/
theorem On12.fin (H : On12 n pg G s mv ov pv S) (ht : t < n) {hv' : List Int} (hS : Stepped n (pg : Int) (n : Int) G G' t h s' .off hv') : On12 n pg G' s' mv (upd ov t (.bool false)) pv (upd S t .off) := by
  refine ⟨hS.ok, hS.ws.symm, fun j hj => ?_, fun j hj => ?_, fun j hj => ?_, H.pv⟩
  · rw [hS.m]
    by_cases e : j = t
    · subst e; rw [upd_at, upd_at]; rfl
    · rw [upd_ne _ _ e, upd_ne _ _ e]; exact H.mc j hj
  · by_cases e : j = t
    · subst e; rw [upd_at]; exact MS.at_off (H.at_ j hj)
    · rw [upd_ne _ _ e]; exact H.at_ j hj
  · by_cases e : j = t
    · subst e; rw [upd_at, upd_at]; rfl
    · rw [upd_ne _ _ e, upd_ne _ _ e]; exact H.on j hj
/-- A machine begins. -/
theorem On12.come (H : On12 n pg G s mv ov pv S) {x' : MS} {a b c : Value} (bb : Bool) (hG : GOk n (pg : Int) (n : Int) G') (hws : G'.ws = G.ws) (hm : G'.m = upd G.m t x'.mc) (hx : x'.at (upd3 mv t a b c) t) (hon : x'.on = true) :
    On12 n pg G' s (upd3 mv t a b c) (upd ov t (.bool true)) (upd pv t (.bool bb)) (upd S t x') := by
  refine ⟨hG, H.ws.trans hws.symm, fun j hj => ?_, fun j hj => ?_, fun j hj => ?_, fun j hj => ?_⟩
  · rw [hm]
    by_cases e : j = t
    · subst e; rw [upd_at, upd_at]
    · rw [upd_ne _ _ e, upd_ne _ _ e]; exact H.mc j hj
  · by_cases e : j = t
    · subst e; rw [upd_at]; exact hx
    · rw [upd_ne _ _ e]; exact MS.at_other e a b c (H.at_ j hj)
  · by_cases e : j = t
    · subst e; rw [upd_at, upd_at, hon]
    · rw [upd_ne _ _ e, upd_ne _ _ e]; exact H.on j hj
  · by_cases e : j = t
    · subst e; rw [upd_at]; exact ⟨bb, rfl⟩
    · rw [upd_ne _ _ e]; exact H.pv j hj
/-- Whose each page is, when all are at rest. -/
theorem On12.all (H : On12 n pg G s mv ov pv S) (hr : ∀ j, j < n → (S j).on = false) (p : Nat) (hp : p < pg) : sumN n (fun t => (G.hv t).count (p : Int)) + ((G.st 0).count (p : Int) + (G.st 1).count (p : Int) + (G.st 2).count (p : Int)) = 1 := by
  have h1 := H.ok.pages (p : Int)
  rw [if_pos (by omega)] at h1
  unfold GS.tot at h1
  have h2 : sumN n (fun t => (G.m t).holds (p : Int)) = 0 := sumN_zero n (fun j hj => by
    show (G.m j).holds (p : Int) = 0
    rw [H.mc j hj, MS.on_off (hr j hj)]; rfl)
  omega
theorem On12.len (H : On12 n pg G s mv ov pv S) : s.words.length = (Lay.words (pg : Int) (n : Int)).toNat := by
  rw [H.ws]; exact (H.ok.stk 0 (by omega)).len
end
section
variable {R : Res} {gb q p r a p' r' gH gM gO gP pg n t : Nat} {s s2 : St} {rl : RL} {hv mv ov pv : Nat → Value} {L : Nat → List Int} {S : Nat → MS} {w0 w : World}
/-- A machine that is done goes. -/
theorem Own.gOff (ht : t < n) {x : MS} (h : Own (GameB gb q p r a p' r' gH gM gO gP pg n s s2 rl hv mv ov pv L (upd S t x) R) w0 w) : Own (GameB gb q p r a p' r' gH gM gO gP pg n s s2 rl hv mv ov pv L (upd S t .off) R) w0 w := by
  have h1 := (h.cast (GameB.mOut ht)).drop
  refine h1.cast ?_
  rw [← GameB.mTurn ht .off]
  show _ = Sep Nought _
  rw [Sep.nought]
  unfold SideB
  rw [msR_upd, upd_upd]
/-- What lies beside the game. -/
theorem GameB.beside {X : Res} : GameB gb q p r a p' r' gH gM gO gP pg n s s2 rl hv mv ov pv L S (Sep X R) = Sep X (GameB gb q p r a p' r' gH gM gO gP pg n s s2 rl hv mv ov pv L S R) := by
  unfold GameB; ac_rfl
end
end Go.Proofs.Ytafamfjgehnddaa

namespace Go.Proofs.Ytafamfjgehnddaa
open Go Go.RowKit
section
variable {R : Res} {gb q p r a p' r' gH gM gO gP pg n t : Nat} {s s2 : St} {rl : RL} {hv mv ov pv : Nat → Value} {L : Nat → List Int} {S : Nat → MS} {w0 w : World}
theorem Own.gNewRow (lR : Loc R) (ht : t < n) (h : Own (GameB gb q p r a p' r' gH gM gO gP pg n s s2 rl hv mv ov pv L S R) w0 w) {u : World} (b : Below w.heap.size w u) {v' : Value} {l' : List Int} (hrow : u.ownsRow w.heap.size 3 1 v' l'.length (intVals l')) :
    Own (GameB gb q p r a p' r' gH gM gO gP pg n s s2 rl (upd hv t v') mv ov pv (upd L t l') S R) w0 (u.setCell ⟨gH, t, none⟩ v') := by
  have h1 := Own.fresh (R1 := HvR v' l') (G := fun x => v'.ownBlock = some x) (Loc.gameB lR) h ⟨⟨hrow.1, by
    rcases hrow.2 with h0 | ⟨g, cap, cur, e, _, hg, h4⟩
    · exact .inl h0
    · exact .inr ⟨g, cap, cur, e, Nat.zero_le _, hg, h4⟩⟩, fun _ => Iff.rfl⟩ (fun x hx => by
    rcases hrow.2 with ⟨e, _⟩ | ⟨g, cap, cur, e, hb, _⟩
    · rw [e] at hx; cases hx
    · rw [e] at hx
      obtain rfl : g = x := by simpa [Value.ownBlock] using hx
      exact hb) b
  have h2 : Own (Sep (HvR v' l') (Sep (BO gb (gameO q a gH gM gO gP n)) (Sep (BO gH (.cells (rowN n hv) 54 (0, 0))) (Sep (BO gM (.cells (rowN (n * 3) mv) 47 (0, 0))) (Sep (BO gO (.cells (rowN n ov) 4 (0, 0))) (Sep (BO gP (.cells (rowN n pv) 4 (0, 0)))
    (Sep (AX q (pg : Int) (n : Int) p r s pg [] 1 rl) (Sep (MX a (pg : Int) (n : Int) p' r' s2 pg [] 1 rl) (Sep (Many (upd (hvR hv L) t Nought) n) (Sep (Many (msR (pg : Int) (n : Int) S) n) R)))))))))) w0 u :=
    Own.drop (h1.cast (R' := Sep (HvR (hv t) (L t)) _) (by rw [GameB.pagesOut ht]; ac_rfl))
  have h3 := Own.boSet (Loc.hvR.sep (Loc.bo.sep (Loc.bo.sep (Loc.bo.sep (Loc.bo.sep (Loc.ax.sep (Loc.mx.sep ((Loc.rest (f := hvR hv L) (fun _ => Loc.hvR) t n).sep ((Loc.many Loc.ms n).sep lR))))))))) (h2.cast (R' := Sep (BO gH (.cells (rowN n hv) 54 (0, 0))) (Sep (HvR v' l') (Sep (BO gb (gameO q a gH gM gO gP n)) (Sep (BO gM (.cells (rowN (n * 3) mv) 47 (0, 0))) (Sep (BO gO (.cells (rowN n ov) 4 (0, 0))) (Sep (BO gP (.cells (rowN n pv) 4 (0, 0)))
    (Sep (AX q (pg : Int) (n : Int) p r s pg [] 1 rl) (Sep (MX a (pg : Int) (n : Int) p' r' s2 pg [] 1 rl) (Sep (Many (upd (hvR hv L) t Nought) n) (Sep (Many (msR (pg : Int) (n : Int) S) n) R)))))))))) (by ac_rfl)) t v'
  rw [rowN_set] at h3
  refine (h3.cast ?_).cast (GameB.pagesBack ht _ _)
  ac_rfl
end
end Go.Proofs.Ytafamfjgehnddaa

namespace Go.Proofs.Ytafamfjgehnddaa
open Go.RowKit

theorem LstAt.owns {w wr : World} {b5 b6 b : Nat} {P T : Int} {ws : List Nat} {v : Value} {l : List Int} (h : LstAt w wr b5 b6 b P T ws v l) : wr.ownsRow w.heap.size 3 1 v l.length (intVals l) := by
  have h1 := h.box
  refine ⟨h.row.1, ?_⟩
  rcases h.row.2 with h0 | ⟨g, cap, cur, e, hb, hg, h4⟩
  · exact .inl h0
  · exact .inr ⟨g, cap, cur, e, by omega, hg, h4⟩
set_option maxRecDepth 100000 in
set_option maxHeartbeats 4000000 in
theorem stackListO {R : Res} {w0 w : World} {q : Nat} {P T : Int} {p r : Nat} {s : St} {pg : Nat} {ds : List Nat} {dn : Nat} {L : RL} (h : Own (Sep (AX q P T p r s pg ds dn L) R) w0 w)
    (i : Nat) (hh : Lay.isHead P T (i : Int) = true) (hl : s.words.length = (Lay.words P T).toNat) (n : Nat) (hP : P = (n : Int)) (l : List Int) (hlst : lst s.words P T n (Tg.page (s.words.getD i 0)) = l) :
    Calls Try.prog 16 #[.pointer (some ⟨q, 0, none⟩), .int .i64 (i : Int)] w fun e w' => ∃ v, e = .returned v ∧ w'.ownsRow w.heap.size 3 1 v l.length (intVals l) ∧ Below w.heap.size w w' := by
  obtain ⟨i0, hi, hz0, hz1, hz2⟩ := info_parts infoI12
  have hA := ArAt.of h
  obtain ⟨b, hS⟩ := AX.st h
  obtain ⟨a1, a2, a3⟩ := Lay.isHead_iff.1 hh
  obtain ⟨m1, m2, m3, m4⟩ := Lay.may_iff.1 a1
  have hil : i < s.words.length := by have := Lay.words_bd a1; omega
  obtain ⟨x, hx⟩ : ∃ x, s.words.getD i 0 = x := ⟨_, rfl⟩
  have hxb : x < 18446744073709551616 := by rw [← hx]; exact getD_lt _ hS.bd i
  have HBD := hide hS.bd
  have HA := hide hA
  have HS := hide hS
  have HH := hide (fun w => khead P T i w)
  rw [hh] at HH
  have HPG := hide (fun w => page11 x hxb w)
  rw [hx] at hlst
  have HX := hide hx
  have HL := hide hl
  have HLST := hide hlst
  have HIL := hide hil
  have HN := hide hP
  have hpb := Tg.page_may x
  generalize Tg.page x = y at *
  have n1 : n ≤ 4096 := by omega
  clear h hA hS hl hlst hh hil hx a1 a2 a3 m1 m2 m3 m4 hP
  go_enter Try.func16, Try.ntmps16
  go_wp2_with fail
  refine (HA.out.layout).mono ?_
  rintro e w1 ⟨rfl, b1⟩
  have HA1 := hide (HA.out.below b1)
  have HS1 := hide (HS.out.below b1)
  have HB1 := hide b1
  have hbk : b < w.heap.size := lt_of_heap HS.out.row
  clear HA HS b1
  have l0 := heap_alloc_at w1 (.cells #[.int .i64 P, .int .i64 T] 26)
  have B2 := hide (grown1 w1 (.cells #[.int .i64 P, .int .i64 T] 26))
  have HL0 := hide l0
  clear l0
  have k0 : (w1.alloc (.cells #[.int .i64 P, .int .i64 T] 26)).cell? ⟨w1.heap.size, 0, none⟩ = some (.int .i64 P) := cell_of_heap HL0.out
  have k1 : (w1.alloc (.cells #[.int .i64 P, .int .i64 T] 26)).cell? ⟨w1.heap.size, 1, none⟩ = some (.int .i64 T) := cell_of_heap HL0.out
  go_wp2_with fail
  have hb5 : w.heap.size ≤ w1.heap.size := HB1.out.size
  have hb5' : w1.heap.size < (w1.alloc (.cells #[.int .i64 P, .int .i64 T] 26)).heap.size := by simp
  have HA2 := hide (HA1.out.below B2.out)
  have HS2 := hide (HS1.out.below B2.out)
  have HB2 := hide (HB1.out.trans (B2.out.mono HB1.out.size))
  clear HA1 HS1 HB1 B2
  generalize w1.alloc (.cells #[.int .i64 P, .int .i64 T] 26) = w2 at *
  generalize w1.heap.size = b5 at *
  refine (HH.out _).mono ?_
  rintro e w3 ⟨rfl, b3⟩
  have HA3 := hide (HA2.out.below b3)
  have HS3 := hide (HS2.out.below b3)
  have HB3 := hide (HB2.out.trans (b3.mono HB2.out.size))
  have HL3 := hide ((b3.block _ (lt_of_heap HL0.out)).trans HL0.out)
  have hs3 := b3.size
  clear HA2 HS2 HB2 HL0 b3 k0 k1
  go_wp2_with fail
  refine (HA3.out.store).mono ?_
  rintro e w4 ⟨rfl, b4⟩
  have HA4 := hide (HA3.out.below b4)
  have HS4 := hide (HS3.out.below b4)
  have HB4 := hide (HB3.out.trans (b4.mono HB3.out.size))
  have HL4 := hide ((b4.block _ (lt_of_heap HL3.out)).trans HL3.out)
  have hs4 := b4.size
  clear HA3 HS3 HB3 HL3 b4
  have c0 : w4.cell? ⟨p, 0, none⟩ = some (.slice (some ⟨b, 0, none⟩) s.words.length s.words.length) := cell_of_heap HS4.out.head
  have c1 : w4.cell? ⟨p, 1, none⟩ = some (.int .i64 s.kind) := cell_of_heap HS4.out.head
  have c2 : w4.cell? ⟨p, 2, none⟩ = some (.int .i64 s.place) := cell_of_heap HS4.out.head
  have c3 : w4.cell? ⟨p, 3, none⟩ = some (.int .u64 s.old) := cell_of_heap HS4.out.head
  have c4 : w4.cell? ⟨p, 4, none⟩ = some (.int .u64 s.new) := cell_of_heap HS4.out.head
  have c5 : w4.cell? ⟨p, 5, none⟩ = some (.int .i64 s.count) := cell_of_heap HS4.out.head
  have HC := hide HS4.out.copy
  have HB5 := hide (HB4.out.alloc (o := (.cells #[.slice (some ⟨b, 0, none⟩) s.words.length s.words.length, .int .i64 s.kind, .int .i64 s.place, .int .u64 s.old, .int .u64 s.new, .int .i64 s.count] 104)) HB4.out.size)
  have HL5 := hide (heap_alloc_old (o := (.cells #[.slice (some ⟨b, 0, none⟩) s.words.length s.words.length, .int .i64 s.kind, .int .i64 s.place, .int .u64 s.old, .int .u64 s.new, .int .i64 s.count] 104)) HL4.out)
  have hs5 : w4.heap.size < (w4.alloc (.cells #[.slice (some ⟨b, 0, none⟩) s.words.length s.words.length, .int .i64 s.kind, .int .i64 s.place, .int .u64 s.old, .int .u64 s.new, .int .i64 s.count] 104)).heap.size := by simp
  go_wp2_with fail
  clear c0 c1 c2 c3 c4 c5 HA4 HS4 HB4 HL4
  generalize w4.alloc (.cells #[.slice (some ⟨b, 0, none⟩) s.words.length s.words.length, .int .i64 s.kind, .int .i64 s.place, .int .u64 s.old, .int .u64 s.new, .int .i64 s.count] 104) = w5 at *
  have hb6 : b5 < w4.heap.size := by omega
  generalize w4.heap.size = b6 at *
  refine (s_load1 _ _ _ _ HC.out i HIL.out).mono ?_
  rintro e w6 ⟨rfl, h6, o6⟩
  rw [HX.out]
  have HI6 : Hid (LstAt w w6 b5 b6 b P T s.words (.slice none 0 0) []) := hide
    (LstAt.load (wr := w5) ⟨⟨hb5, hb6, hs5⟩, hbk, HL5.out, ⟨s, HC.out, rfl⟩, World.ownsRow_nil _ _ _ _, HB5.out⟩ h6 (load_words s i) o6)
  clear h6 o6 HC HB5 HL5 hb5 hb5' hs3 hs4 hs5
  go_wp2_with fail
  refine (HPG.out _).mono ?_
  rintro e w7 ⟨rfl, qq, rfl⟩
  have HI7 := hide (HI6.out.grow ((Alike.drewN w6 qq).below _))
  clear HI6 HPG
  generalize w6.drewN qq = w7 at *
  go_wp2
  go_loopw [9, 10] (fun v y' wr => ∃ (pre : List Int) (z : Int), y' = .int .i64 z ∧ pre.length ≤ n ∧ Hid (LstAt w wr b5 b6 b P T s.words v pre ∧ pre ++ lst s.words P T (n - pre.length) z = l ∧ -1 ≤ z ∧ z ≤ 4095)) (fun v _ _ => n - lenV v)
  case atStart => exact ⟨[], y, rfl, Nat.zero_le _, HI7.out, by simpa using HLST.out, by omega, by omega⟩
  case round =>
    obtain ⟨pre, z, rfl, hpl, hH⟩ := hrel
    obtain ⟨hI, hE, z1, z2⟩ := hH.out
    obtain ⟨va, vc, hva⟩ := ownsRow_slice hI.row
    subst hva
    have k0 : wr.cell? ⟨b5, 0, none⟩ = some (.int .i64 P) := cell_of_heap hI.l0
    have k1 : wr.cell? ⟨b5, 1, none⟩ = some (.int .i64 T) := cell_of_heap hI.l0
    have HI := hide hI
    clear hH
    by_cases hlt : pre.length < n
    · have d1 : decide ((pre.length : Int) < P) = true := by rw [HN.out]; simp; exact hlt
      obtain ⟨k, hk⟩ : ∃ k, n - pre.length = k + 1 := ⟨n - pre.length - 1, by omega⟩
      rw [hk] at hE
      unfold lst at hE
      have HK := hide (fun w => knext P T z w)
      cases hp : (Lay.page P T 11 z).2 with
      | false =>
        rw [hp] at HK hE
        rw [if_neg (by simp), List.append_nil] at hE
        have HE := hide hE
        generalize (Lay.page P T 11 z).1 = at' at *
        have HP := hide hI
        clear hI hE hk hp
        go_wp2_with fail
        refine (HK.out _).mono ?_
        rintro e w8 ⟨rfl, b8⟩
        have HI8 := hide (HI.out.grow b8)
        go_wp2
        go_ret
        refine ⟨_, rfl, ?_, HI8.out.below⟩
        rw [← HE.out]
        exact HI8.out.owns
      | true =>
        obtain ⟨q1, q2⟩ := next_lt hp
        rw [hp] at HK hE
        rw [if_pos rfl] at hE
        obtain ⟨j, hj⟩ : ∃ j : Nat, (Lay.page P T 11 z).1.toNat = j := ⟨_, rfl⟩
        rw [hj] at q1 q2 hE
        rw [← q2] at HK
        obtain ⟨xx, hxx⟩ : ∃ xx, s.words.getD j 0 = xx := ⟨_, rfl⟩
        rw [hxx] at hE
        have xxb : xx < 18446744073709551616 := by rw [← hxx]; exact getD_lt _ HBD.out j
        have HJ := hide (show j < s.words.length by rw [HL.out]; exact q1)
        have HXX := hide hxx
        have HE := hide hE
        have HKK := hide hk
        have HNM := hide (fun w => knamed xx xxb w)
        have HZ := hide (nmd_bd xx)
        have hnm : (if xx ≤ 4096 then (xx : Int) - 1 else -1) = nmd xx := rfl
        rw [hnm] at HNM
        generalize nmd xx = z' at *
        clear hI hE hk hp hj q1 q2 hxx hnm
        go_wp2_with fail
        refine (HK.out _).mono ?_
        rintro e w8 ⟨rfl, b8⟩
        have HI8 := hide (HI.out.grow b8)
        have hz8 := HI8.out.box
        clear HI b8
        go_wp2_with (at_builtin; refine wpList_append_own _ rfl _ _ 54 rfl (b6 + 1) 3 i0 (.int .i64 0) 1 8 Try.underlying54 hi hz0 hz1 hz2 rfl (by decide) _ _ _ rfl (HI8.out.row.alloc _) ⟨_, 0, none⟩ 1 1 [.int .i64 z] rfl rfl (cell_one_new _ _ _) (by simp [Value.oneCell']) (by unfold maxLen; omega) (by omega) (by simp; omega) ?_; intro v' w9 hown' hgrow' _)
        have HI9 := hide (LstAt.push HI8.out hown' hgrow')
        clear HI8 hown' hgrow' hz8
        obtain ⟨s9, g1, g2⟩ := HI9.out.st
        have G1 := hide g1
        have G2 := hide g2
        clear g1 g2
        refine (s_load1 _ _ _ _ G1.out j (by rw [G2.out]; exact HJ.out)).mono ?_
        rintro e w10 ⟨rfl, h10, o10⟩
        have HI10 := hide (LstAt.load HI9.out h10 (by rw [load_words]; exact G2.out) o10)
        have ex : s9.words.getD j 0 = xx := by rw [G2.out]; exact HXX.out
        rw [ex]
        clear ex h10 o10 HI9 G1 G2
        go_wp2_with fail
        refine (HNM.out _).mono ?_
        rintro e w11 ⟨rfl, rfl⟩
        go_wp2
        go_roundw
        case rel =>
          refine ⟨pre ++ [z], z', rfl, by rw [List.length_append, List.length_singleton]; omega, HI10.out, ?_, HZ.out⟩
          rw [List.append_assoc, List.singleton_append, List.length_append, List.length_singleton, show n - (pre.length + 1) = k by have := HKK.out; omega]
          exact HE.out
        case measure =>
          obtain ⟨va', vc', hva'⟩ := ownsRow_slice HI10.out.row
          rw [hva']
          simp only [lenV, List.length_append, List.length_singleton]
          omega
    · have d1 : decide ((pre.length : Int) < P) = false := by rw [HN.out]; simp; omega
      rw [show n - pre.length = 0 by omega] at hE
      unfold lst at hE
      rw [List.append_nil] at hE
      have HE := hide hE
      clear hI hE
      go_wp2
      go_ret
      refine ⟨_, rfl, ?_, HI.out.below⟩
      rw [← HE.out]
      exact HI.out.owns
end Go.Proofs.Ytafamfjgehnddaa

namespace Go.Proofs.Ytafamfjgehnddaa
open Go Go.RowKit

/-- The lists that are counted: the threads' ones, then the stacks. -/
def lstK (n : Nat) (G : GS) (k : Nat) : List Int := if k < n then G.hv k else G.st (k - n)
def cntT (L : Nat → List Int) : Nat → Nat → Nat
  | 0, _ => 0
  | k + 1, j => cntT L k j + (L k).count (j : Int)
theorem cntT_succ (L : Nat → List Int) (k : Nat) : addC (cntT L k) (L k) = cntT L (k + 1) := rfl
theorem cntT_sum (L : Nat → List Int) (j : Nat) : ∀ k, cntT L k j = sumN k (fun t => (L t).count (j : Int))
  | 0 => rfl
  | k + 1 => by
    show cntT L k j + (L k).count (j : Int) = (L k).count (j : Int) + sumN k _
    rw [cntT_sum L j k]; omega
theorem cntT_le (L : Nat → List Int) (j : Nat) {k : Nat} : ∀ m, k ≤ m → cntT L k j ≤ cntT L m j
  | 0, h => by obtain rfl : k = 0 := by omega
               exact Nat.le_refl _
  | m + 1, h => by
    by_cases e : k = m + 1
    · rw [e]; exact Nat.le_refl _
    · exact Nat.le_trans (cntT_le L j m (by omega)) (Nat.le_add_right _ _)
section
variable {n pg t h : Nat} {G : GS} {s : St} {mv ov pv : Nat → Value} {S : Nat → MS}
theorem lstK_hv {k : Nat} (hk : k < n) : lstK n G k = G.hv k := if_pos hk
theorem lstK_st {k : Nat} : lstK n G (n + k) = G.st k := by
  unfold lstK
  rw [if_neg (by omega), show n + k - n = k by omega]
/-- All is seen once. -/
theorem On12.cnt (H : On12 n pg G s mv ov pv S) (hr : ∀ j, j < n → (S j).on = false) (j : Nat) : cntT (lstK n G) (n + 3) j = if j < pg then 1 else 0 := by
  have h1 := H.ok.pages (j : Int)
  unfold GS.tot at h1
  have h2 : sumN n (fun t => (G.m t).holds (j : Int)) = 0 := sumN_zero n (fun i hi => by
    show (G.m i).holds (j : Int) = 0
    rw [H.mc i hi, MS.on_off (hr i hi)]; rfl)
  have h3 : cntT (lstK n G) n j = sumN n (fun t => (G.hv t).count (j : Int)) := by
    rw [cntT_sum]
    exact sumN_congr n (fun t ht => by show List.count _ (lstK n G t) = _; rw [lstK_hv ht])
  have e0 : lstK n G n = G.st 0 := lstK_st (k := 0)
  have e1 : lstK n G (n + 1) = G.st 1 := lstK_st
  have e2 : lstK n G (n + 2) = G.st 2 := lstK_st
  have h4 : cntT (lstK n G) (n + 3) j = cntT (lstK n G) n j + (G.st 0).count (j : Int) + (G.st 1).count (j : Int) + (G.st 2).count (j : Int) := by
    show cntT (lstK n G) n j + (lstK n G n).count (j : Int) + (lstK n G (n + 1)).count (j : Int) + (lstK n G (n + 2)).count (j : Int) = _
    rw [e0, e1, e2]
  rw [h4, h3]
  by_cases hj : j < pg
  · rw [if_pos (by omega)] at h1; rw [if_pos hj]; omega
  · rw [if_neg (by omega)] at h1; rw [if_neg hj]; omega
theorem On12.bdC (H : On12 n pg G s mv ov pv S) (hr : ∀ j, j < n → (S j).on = false) {k : Nat} (hk : k ≤ n + 3) (j : Nat) : cntT (lstK n G) k j ≤ 1000 := by
  have h1 := cntT_le (lstK n G) j (n + 3) hk
  rw [H.cnt hr j] at h1
  split at h1 <;> omega
theorem On12.mem (H : On12 n pg G s mv ov pv S) {k : Nat} (hk : k < n + 3) : ∀ x ∈ lstK n G k, 0 ≤ x ∧ x < (pg : Int) := by
  intro x hx
  have h1 := H.ok.pages x
  unfold GS.tot at h1
  have hc := List.count_pos_iff.2 hx
  by_cases hkn : k < n
  · rw [lstK_hv hkn] at hc
    have h2 : List.count x (G.hv k) ≤ sumN n (fun j => (G.hv j).count x) := sumN_one (f := fun j => (G.hv j).count x) (t := k) n hkn
    by_cases hi : 0 ≤ x ∧ x < (pg : Int)
    · exact hi
    · rw [if_neg hi] at h1; omega
  · obtain ⟨i, rfl⟩ : ∃ i, k = n + i := ⟨k - n, by omega⟩
    rw [lstK_st] at hx
    exact (H.ok.stk i (by omega)).chain.bd x hx
theorem On12.lenK (H : On12 n pg G s mv ov pv S) {k : Nat} (hk : k < n + 3) : (lstK n G k).length ≤ pg := by
  by_cases hkn : k < n
  · rw [lstK_hv hkn]; exact hv_len H.ok hkn
  · obtain ⟨i, rfl⟩ : ∃ i, k = n + i := ⟨k - n, by omega⟩
    rw [lstK_st]
    have hs := H.ok.stk i (by omega)
    exact pigeon pg _ hs.once (fun x hx => hs.chain.bd x hx)
end
/-- A new row of numbers beside what is there. -/
theorem Own.hvNew {R : Res} {w0 w u : World} (lR : Loc R) (h : Own R w0 w) {v : Value} {l : List Int} (hrow : u.ownsRow w.heap.size 3 1 v l.length (intVals l)) (b : Below w.heap.size w u) : Own (Sep (HvR v l) R) w0 u :=
  Own.fresh (R1 := HvR v l) (G := fun x => v.ownBlock = some x) lR h ⟨⟨hrow.1, by
    rcases hrow.2 with h0 | ⟨g, cap, cur, e, _, hg, h4⟩
    · exact .inl h0
    · exact .inr ⟨g, cap, cur, e, Nat.zero_le _, hg, h4⟩⟩, fun _ => Iff.rfl⟩ (fun x hx => by
    rcases hrow.2 with ⟨e, _⟩ | ⟨g, cap, cur, e, hb, _⟩
    · rw [e] at hx; cases hx
    · rw [e] at hx
      obtain rfl : g = x := by simpa [Value.ownBlock] using hx
      exact hb) b
/-- A row that lies beside what is counted into. -/
theorem countRow {R : Res} {w0 w : World} (lR : Loc R) (gs pg : Nat) (c : Nat → Nat) (v : Value) (l : List Int) (h : Own (Sep (BO gs (.cells (rowN pg (cntV c)) 3 (0, 0))) (Sep (HvR v l) R)) w0 w)
    (hin : ∀ x ∈ l, 0 ≤ x ∧ x < (pg : Int)) (hc : ∀ j, c j ≤ 1000) (hl : l.length ≤ 1000) :
    Calls Try.prog 15 #[.slice (some ⟨gs, 0, none⟩) pg pg, v] w fun e w' => e = .returned (.bool true) ∧ Own (Sep (BO gs (.cells (rowN pg (cntV (addC c l))) 3 (0, 0))) (Sep (HvR v l) R)) w0 w' := by
  have h' := h.cast (R' := Sep (HvR v l) (Sep (BO gs (.cells (rowN pg (cntV c)) 3 (0, 0))) R)) (by ac_rfl)
  obtain ⟨ao, cap, rfl⟩ := HvR.form h'
  refine lawCount (Loc.hvR.sep lR) gs pg c ao l cap h (fun hne => ?_) (fun k hk => ?_) hc hl
  · have r0 := Own.hv h' rfl
    rcases r0.2 with ⟨e, _⟩ | ⟨g, cap', cur, e, _⟩
    · exact absurd (List.length_eq_zero_iff.1 (by injection e)) hne
    · refine ⟨g, by injection e, fun c u hu j hj => ?_⟩
      have r1 := Own.hv (hu.cast (R' := Sep (HvR (.slice ao l.length cap) l) (Sep (BO gs (.cells (rowN pg (cntV c)) 3 (0, 0))) R)) (by ac_rfl)) rfl
      have ea : ao = some ⟨g, 0, none⟩ := by injection e
      subst ea
      have := World.ownsRow.cells r1 (g := g) rfl j (.int .i64 (l.getD j 0)) (by simp [intVals, hj])
      have e2 : (⟨g, 0, none⟩ : Addr).add j = ⟨g, j, none⟩ := by unfold Addr.add; split <;> simp_all
      rw [← e2]
      simpa using this
  · have e : l.getD k 0 = l[k] := by simp [hk]
    rw [e]
    exact hin _ (List.getElem_mem hk)
section
variable {R : Res} {gb q p r a p' r' gH gM gO gP pg n t k gs : Nat} {s s2 : St} {rl : RL} {hv mv ov pv : Nat → Value} {L : Nat → List Int} {S : Nat → MS} {w0 w : World} {c : Nat → Nat} {G : GS}
/-- What stands when pages are counted: the counts, the game. -/
def TailR (gs gb q p r a p' r' gH gM gO gP pg n : Nat) (s s2 : St) (rl : RL) (hv mv ov pv : Nat → Value) (L : Nat → List Int) (S : Nat → MS) (R : Res) (c : Nat → Nat) : Res :=
  Sep (BO gs (.cells (rowN pg (cntV c)) 3 (0, 0))) (GameB gb q p r a p' r' gH gM gO gP pg n s s2 rl hv mv ov pv L S R)
theorem Loc.tailR (l : Loc R) : Loc (TailR gs gb q p r a p' r' gH gM gO gP pg n s s2 rl hv mv ov pv L S R c) := Loc.bo.sep (Loc.gameB l)
theorem TailR.ax (l : Loc R) : ∃ X, Loc X ∧ TailR gs gb q p r a p' r' gH gM gO gP pg n s s2 rl hv mv ov pv L S R c = Sep (AX q (pg : Int) (n : Int) p r s pg [] 1 rl) X :=
  ⟨Sep (BO gs (.cells (rowN pg (cntV c)) 3 (0, 0))) (Sep (BO gb (gameO q a gH gM gO gP n)) (Sep (BO gH (.cells (rowN n hv) 54 (0, 0))) (Sep (BO gM (.cells (rowN (n * 3) mv) 47 (0, 0))) (Sep (BO gO (.cells (rowN n ov) 4 (0, 0))) (Sep (BO gP (.cells (rowN n pv) 4 (0, 0)))
    (Sep (MX a (pg : Int) (n : Int) p' r' s2 pg [] 1 rl) (Sep (Many (hvR hv L) n) (Sep (Many (msR (pg : Int) (n : Int) S) n) R)))))))),
   Loc.bo.sep (Loc.bo.sep (Loc.bo.sep (Loc.bo.sep (Loc.bo.sep (Loc.bo.sep (Loc.mx.sep ((Loc.many (fun _ => Loc.hvR) n).sep ((Loc.many Loc.ms n).sep l)))))))), by unfold TailR GameB; ac_rfl⟩
theorem Own.tGame (h : Own (TailR gs gb q p r a p' r' gH gM gO gP pg n s s2 rl hv mv ov pv L S R c) w0 w) : Own (GameB gb q p r a p' r' gH gM gO gP pg n s s2 rl hv mv ov pv L S R) w0 w := Own.drop h
theorem Own.tSeen (h : Own (TailR gs gb q p r a p' r' gH gM gO gP pg n s s2 rl hv mv ov pv L S R c) w0 w) {j : Nat} (hj : j < pg) : w.cell? ⟨gs, j, none⟩ = some (.int .i64 (c j : Int)) :=
  (cell_of_heap (Own.boAt h)).trans (rowN_get _ hj)
/-- A thread's pages are counted. -/
theorem tailCount (lR : Loc R) (h : Own (TailR gs gb q p r a p' r' gH gM gO gP pg n s s2 rl hv mv ov pv L S R c) w0 w) (ht : t < n) (hin : ∀ x ∈ L t, 0 ≤ x ∧ x < (pg : Int)) (hc : ∀ j, c j ≤ 1000) (hl : (L t).length ≤ 1000) :
    Calls Try.prog 15 #[.slice (some ⟨gs, 0, none⟩) pg pg, hv t] w fun e w' => e = .returned (.bool true) ∧ Own (TailR gs gb q p r a p' r' gH gM gO gP pg n s s2 rl hv mv ov pv L S R (addC c (L t))) w0 w' := by
  unfold TailR at h ⊢
  rw [GameB.pagesOut ht] at h ⊢
  exact countRow (Loc.bo.sep (Loc.bo.sep (Loc.bo.sep (Loc.bo.sep (Loc.bo.sep (Loc.ax.sep (Loc.mx.sep ((Loc.rest (f := hvR hv L) (fun _ => Loc.hvR) t n).sep ((Loc.many Loc.ms n).sep lR))))))))) gs pg c (hv t) (L t) h hin hc hl
/-- A stack's pages, listed. -/
theorem tailList (lR : Loc R) (h : Own (TailR gs gb q p r a p' r' gH gM gO gP pg n s s2 rl hv mv ov pv L S R c) w0 w) (hG : GOk n (pg : Int) (n : Int) G) (hs : s.words = G.ws) (hk : k < 3) :
    Calls Try.prog 16 #[.pointer (some ⟨q, 0, none⟩), .int .i64 ((hdw k : Nat) : Int)] w fun e w' => ∃ v, e = .returned v ∧ Own (Sep (HvR v (G.st k)) (TailR gs gb q p r a p' r' gH gM gO gP pg n s s2 rl hv mv ov pv L S R c)) w0 w' := by
  obtain ⟨X, lX, eX⟩ := TailR.ax (gs := gs) (gb := gb) (q := q) (p := p) (r := r) (a := a) (p' := p') (r' := r') (gH := gH) (gM := gM) (gO := gO) (gP := gP) (pg := pg) (n := n) (s := s) (s2 := s2) (rl := rl) (hv := hv) (mv := mv) (ov := ov) (pv := pv) (L := L) (S := S) (c := c) lR
  have hw := hdw_lt hk
  have hst := hG.stk k hk
  refine (stackListO (h.cast eX) (hdw k) (Lay.isHead_iff.2 ⟨hG.may, by omega, by omega⟩) (by rw [hs]; exact hst.len) pg rfl (G.st k) (by rw [hs]; exact hst.list pg rfl)).mono ?_
  rintro e w1 ⟨v, rfl, hrow, b⟩
  exact ⟨v, rfl, Own.hvNew (Loc.tailR lR) h hrow b⟩
/-- What was listed is counted. -/
theorem tailSeen (lR : Loc R) {v : Value} {l : List Int} (h : Own (Sep (HvR v l) (TailR gs gb q p r a p' r' gH gM gO gP pg n s s2 rl hv mv ov pv L S R c)) w0 w) (hin : ∀ x ∈ l, 0 ≤ x ∧ x < (pg : Int)) (hc : ∀ j, c j ≤ 1000) (hl : l.length ≤ 1000) :
    Calls Try.prog 15 #[.slice (some ⟨gs, 0, none⟩) pg pg, v] w fun e w' => e = .returned (.bool true) ∧ Own (TailR gs gb q p r a p' r' gH gM gO gP pg n s s2 rl hv mv ov pv L S R (addC c l)) w0 w' := by
  refine (countRow (Loc.gameB lR) gs pg c v l (h.cast (by unfold TailR; ac_rfl)) hin hc hl).mono ?_
  rintro e w1 ⟨rfl, o⟩
  exact ⟨rfl, Own.drop (o.cast (R' := Sep (HvR v l) _) (by unfold TailR; ac_rfl))⟩
/-- A head is read. -/
theorem tailRead (lR : Loc R) (h : Own (TailR gs gb q p r a p' r' gH gM gO gP pg n s s2 rl hv mv ov pv L S R c) w0 w) (hG : GOk n (pg : Int) (n : Int) G) (hs : s.words = G.ws) (hk : k < 3) :
    Calls Try.prog 19 #[.pointer (some ⟨q, 0, none⟩), .int .i64 ((hdw k : Nat) : Int)] w fun e w' => e = .returned (.int .u64 (G.ws.getD (hdw k) 0 : Int)) ∧ Own (TailR gs gb q p r a p' r' gH gM gO gP pg n s s2 rl hv mv ov pv L S R c) w0 w' := by
  obtain ⟨X, lX, eX⟩ := TailR.ax (gs := gs) (gb := gb) (q := q) (p := p) (r := r) (a := a) (p' := p') (r' := r') (gH := gH) (gM := gM) (gO := gO) (gP := gP) (pg := pg) (n := n) (s := s) (s2 := s2) (rl := rl) (hv := hv) (mv := mv) (ov := ov) (pv := pv) (L := L) (S := S) (c := c) lR
  have hw := hdw_lt hk
  have hst := hG.stk k hk
  have hbd := Lay.words_bd hG.may
  rw [eX] at h ⊢
  rw [← hs]
  exact lawRead lX h (hdw k) (by rw [hs, hst.len]; omega)
theorem tailTag (lR : Loc R) (h : Own (TailR gs gb q p r a p' r' gH gM gO gP pg n s s2 rl hv mv ov pv L S R c) w0 w) (hG : GOk n (pg : Int) (n : Int) G) (hk : k < 3) :
    Calls Try.prog 18 #[.int .u64 (G.ws.getD (hdw k) 0 : Int)] w fun e w' => e = .returned (.int .u32 (G.tn k : Int)) ∧ Own (TailR gs gb q p r a p' r' gH gM gO gP pg n s s2 rl hv mv ov pv L S R c) w0 w' := by
  refine (tag13 _ (hG.bd _) w).mono ?_
  rintro e w1 ⟨rfl, x, rfl⟩
  exact ⟨by rw [(head_tag hG hk).1], Own.below (Loc.tailR lR) h ((Alike.drewN w x).below _)⟩
end
end Go.Proofs.Ytafamfjgehnddaa
