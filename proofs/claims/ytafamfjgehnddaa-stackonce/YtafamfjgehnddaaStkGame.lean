/- The game of pushes and pops in memory; a thread's next machine (printed by gen/stkgame.py). -/
import Derived.Test.YtafamfjgehnddaaGameNew
import Derived.Test.YtafamfjgehnddaaPE
import Derived.Test.YtafamfjgehnddaaPhaseS
namespace Go.Proofs.Ytafamfjgehnddaa
open Go Go.RowKit

/-- A thread of the game: nothing on, a pop, a push. -/
inductive MS where
  | off
  | pop (m b : Nat) (v : MV) (l : List Nat) (h : Nat) (M : PopS)
  | push (m b : Nat) (v : MV) (l : List Nat) (h : Nat) (M : PushS)
def MS.res (P T : Int) : MS → Res
  | .off => Nought
  | .pop m b v l h M => Sep (BO m (popO P T ((hdw h : Nat) : Int) M.g M.was M.page M.below)) (Sep (BO b (mObj (kPop P T ((hdw h : Nat) : Int) 0) v)) (LogR v.log l))
  | .push m b v l h M => Sep (BO m (pushO P T ((hdw h : Nat) : Int) M.g M.was M.page)) (Sep (BO b (mObj (kPush P T ((hdw h : Nat) : Int) M.page) v)) (LogR v.log l))
def MS.mc : MS → Mc
  | .off => .off
  | .pop _ _ _ _ h M => .pop h M
  | .push _ _ _ _ h M => .push h M
def MS.on : MS → Bool
  | .off => false
  | _ => true
/-- The three pointers of a thread. -/
def MS.at (mv : Nat → Value) (t : Nat) : MS → Prop
  | .off => ∃ pa pb pm, mv (t * 3) = .pointer pa ∧ mv (t * 3 + 1) = .pointer pb ∧ mv (t * 3 + 2) = .pointer pm
  | .pop m b _ _ _ _ => mv (t * 3) = .pointer (some ⟨m, 0, none⟩) ∧ mv (t * 3 + 1) = .pointer none ∧ mv (t * 3 + 2) = .pointer (some ⟨b, 0, none⟩)
  | .push m b _ _ _ _ => mv (t * 3) = .pointer none ∧ mv (t * 3 + 1) = .pointer (some ⟨m, 0, none⟩) ∧ mv (t * 3 + 2) = .pointer (some ⟨b, 0, none⟩)
theorem MS.loc {P T : Int} : ∀ x : MS, Loc (x.res P T)
  | .off => Loc.nought
  | .pop _ _ _ _ _ _ => Loc.bo.sep (Loc.bo.sep Loc.logR)
  | .push _ _ _ _ _ _ => Loc.bo.sep (Loc.bo.sep Loc.logR)
def msR (P T : Int) (S : Nat → MS) (j : Nat) : Res := (S j).res P T
theorem Loc.ms {P T : Int} {S : Nat → MS} (j : Nat) : Loc (msR P T S j) := MS.loc _
theorem msR_upd (P T : Int) (S : Nat → MS) (t : Nat) (x : MS) : msR P T (upd S t x) = upd (msR P T S) t (x.res P T) := by
  funext j; unfold msR upd; split <;> rfl
def hvR (hv : Nat → Value) (L : Nat → List Int) (j : Nat) : Res := HvR (hv j) (L j)
theorem hvR_upd (hv : Nat → Value) (L : Nat → List Int) (t : Nat) (v : Value) (l : List Int) : hvR (upd hv t v) (upd L t l) = upd (hvR hv L) t (HvR v l) := by
  funext j; unfold hvR upd; split <;> rfl
/-- Three cells of the machines' row. -/
def upd3 (mv : Nat → Value) (t : Nat) (a b c : Value) : Nat → Value := upd (upd (upd mv (t * 3) a) (t * 3 + 1) b) (t * 3 + 2) c
theorem upd3_0 (mv : Nat → Value) (t : Nat) (a b c : Value) : upd3 mv t a b c (t * 3) = a := by unfold upd3; rw [upd_ne _ _ (by omega), upd_ne _ _ (by omega), upd_at]
theorem upd3_1 (mv : Nat → Value) (t : Nat) (a b c : Value) : upd3 mv t a b c (t * 3 + 1) = b := by unfold upd3; rw [upd_ne _ _ (by omega), upd_at]
theorem upd3_2 (mv : Nat → Value) (t : Nat) (a b c : Value) : upd3 mv t a b c (t * 3 + 2) = c := by unfold upd3; rw [upd_at]
theorem upd3_ne (mv : Nat → Value) (t : Nat) (a b c : Value) {j : Nat} (h1 : j ≠ t * 3) (h2 : j ≠ t * 3 + 1) (h3 : j ≠ t * 3 + 2) : upd3 mv t a b c j = mv j := by unfold upd3; rw [upd_ne _ _ h3, upd_ne _ _ h2, upd_ne _ _ h1]
theorem MS.at_other {mv : Nat → Value} {t u : Nat} (hu : u ≠ t) (a b c : Value) : ∀ {x : MS}, x.at mv u → x.at (upd3 mv t a b c) u := by
  intro x hx
  have e0 : upd3 mv t a b c (u * 3) = mv (u * 3) := upd3_ne _ _ _ _ _ (by omega) (by omega) (by omega)
  have e1 : upd3 mv t a b c (u * 3 + 1) = mv (u * 3 + 1) := upd3_ne _ _ _ _ _ (by omega) (by omega) (by omega)
  have e2 : upd3 mv t a b c (u * 3 + 2) = mv (u * 3 + 2) := upd3_ne _ _ _ _ _ (by omega) (by omega) (by omega)
  cases x <;> simp only [MS.at, e0, e1, e2] at hx ⊢ <;> exact hx

/-- The game, whole: its head, its rows, both arenas, the pages in hand, the machines. -/
def GameB (gb q p r a p' r' gH gM gO gP pg n : Nat) (s s2 : St) (rl : RL) (hv mv ov pv : Nat → Value) (L : Nat → List Int) (S : Nat → MS) (R : Res) : Res :=
  Sep (BO gb (gameO q a gH gM gO gP n)) (Sep (BO gH (.cells (rowN n hv) 54 (0, 0))) (Sep (BO gM (.cells (rowN (n * 3) mv) 47 (0, 0))) (Sep (BO gO (.cells (rowN n ov) 4 (0, 0))) (Sep (BO gP (.cells (rowN n pv) 4 (0, 0)))
    (Sep (AX q (pg : Int) (n : Int) p r s pg [] 1 rl) (Sep (MX a (pg : Int) (n : Int) p' r' s2 pg [] 1 rl) (Sep (Many (hvR hv L) n) (Sep (Many (msR (pg : Int) (n : Int) S) n) R))))))))
section
variable {R : Res} {gb q p r a p' r' gH gM gO gP pg n t : Nat} {s s2 : St} {rl : RL} {hv mv ov pv : Nat → Value} {L : Nat → List Int} {S : Nat → MS} {w0 w : World}
theorem Loc.gameB (l : Loc R) : Loc (GameB gb q p r a p' r' gH gM gO gP pg n s s2 rl hv mv ov pv L S R) := Loc.bo.sep (Loc.bo.sep (Loc.bo.sep (Loc.bo.sep (Loc.bo.sep (Loc.ax.sep (Loc.mx.sep ((Loc.many (fun _ => Loc.hvR) n).sep ((Loc.many Loc.ms n).sep l))))))))
theorem GameB.start : GameB gb q p r a p' r' gH gM gO gP pg n s s2 rl hv mv ov pv L (fun _ => .off) R = Sep (BO gb (gameO q a gH gM gO gP n)) (Sep (BO gH (.cells (rowN n hv) 54 (0, 0))) (Sep (BO gM (.cells (rowN (n * 3) mv) 47 (0, 0))) (Sep (BO gO (.cells (rowN n ov) 4 (0, 0))) (Sep (BO gP (.cells (rowN n pv) 4 (0, 0)))
    (Sep (AX q (pg : Int) (n : Int) p r s pg [] 1 rl) (Sep (MX a (pg : Int) (n : Int) p' r' s2 pg [] 1 rl) (Sep (Many (fun t => HvR (hv t) (L t)) n) R))))))) := by
  unfold GameB
  rw [show msR (pg : Int) (n : Int) (fun _ => .off) = (fun _ => Nought) from rfl, Many.none, Sep.nought]
  rfl
/-- A machine comes to a thread that had none. -/
theorem GameB.come (ht : t < n) (hoff : S t = .off) (x : MS) : GameB gb q p r a p' r' gH gM gO gP pg n s s2 rl hv mv ov pv L (upd S t x) R = Sep (x.res (pg : Int) (n : Int)) (GameB gb q p r a p' r' gH gM gO gP pg n s s2 rl hv mv ov pv L S R) := by
  unfold GameB
  rw [msR_upd, Many.put (msR (pg : Int) (n : Int) S) t (x.res (pg : Int) (n : Int)) n ht]
  have e : upd (msR (pg : Int) (n : Int) S) t Nought = msR (pg : Int) (n : Int) S := by
    have := upd_id (msR (pg : Int) (n : Int) S) t
    rw [show msR (pg : Int) (n : Int) S t = Nought from by unfold msR; rw [hoff]; rfl] at this
    exact this
  rw [e]
  ac_rfl
/-- Rows, and what lies beside each. -/
theorem Own.gHead (h : Own (GameB gb q p r a p' r' gH gM gO gP pg n s s2 rl hv mv ov pv L S R) w0 w) : w.heap[gb]? = some (gameO q a gH gM gO gP n) := h.has (by unfold GameB; rfl)
theorem Own.gHave (h : Own (GameB gb q p r a p' r' gH gM gO gP pg n s s2 rl hv mv ov pv L S R) w0 w) (ht : t < n) : w.cell? ⟨gH, t, none⟩ = some (hv t) :=
  (cell_of_heap (h.has (R := _) (m := gH) (by unfold GameB; rw [BO.swap]))).trans (rowN_get _ ht)
theorem GameB.onOut : GameB gb q p r a p' r' gH gM gO gP pg n s s2 rl hv mv ov pv L S R = Sep (BO gO (.cells (rowN n ov) 4 (0, 0))) (Sep (BO gb (gameO q a gH gM gO gP n)) (Sep (BO gH (.cells (rowN n hv) 54 (0, 0))) (Sep (BO gM (.cells (rowN (n * 3) mv) 47 (0, 0))) (Sep (BO gP (.cells (rowN n pv) 4 (0, 0)))
    (Sep (AX q (pg : Int) (n : Int) p r s pg [] 1 rl) (Sep (MX a (pg : Int) (n : Int) p' r' s2 pg [] 1 rl) (Sep (Many (hvR hv L) n) (Sep (Many (msR (pg : Int) (n : Int) S) n) R)))))))) := by unfold GameB; ac_rfl
theorem GameB.pushOut : GameB gb q p r a p' r' gH gM gO gP pg n s s2 rl hv mv ov pv L S R = Sep (BO gP (.cells (rowN n pv) 4 (0, 0))) (Sep (BO gb (gameO q a gH gM gO gP n)) (Sep (BO gH (.cells (rowN n hv) 54 (0, 0))) (Sep (BO gM (.cells (rowN (n * 3) mv) 47 (0, 0))) (Sep (BO gO (.cells (rowN n ov) 4 (0, 0)))
    (Sep (AX q (pg : Int) (n : Int) p r s pg [] 1 rl) (Sep (MX a (pg : Int) (n : Int) p' r' s2 pg [] 1 rl) (Sep (Many (hvR hv L) n) (Sep (Many (msR (pg : Int) (n : Int) S) n) R)))))))) := by unfold GameB; ac_rfl
theorem GameB.machOut : GameB gb q p r a p' r' gH gM gO gP pg n s s2 rl hv mv ov pv L S R = Sep (BO gM (.cells (rowN (n * 3) mv) 47 (0, 0))) (Sep (BO gb (gameO q a gH gM gO gP n)) (Sep (BO gH (.cells (rowN n hv) 54 (0, 0))) (Sep (BO gO (.cells (rowN n ov) 4 (0, 0))) (Sep (BO gP (.cells (rowN n pv) 4 (0, 0)))
    (Sep (AX q (pg : Int) (n : Int) p r s pg [] 1 rl) (Sep (MX a (pg : Int) (n : Int) p' r' s2 pg [] 1 rl) (Sep (Many (hvR hv L) n) (Sep (Many (msR (pg : Int) (n : Int) S) n) R)))))))) := by unfold GameB; ac_rfl
theorem GameB.haveOut : GameB gb q p r a p' r' gH gM gO gP pg n s s2 rl hv mv ov pv L S R = Sep (BO gH (.cells (rowN n hv) 54 (0, 0))) (Sep (BO gb (gameO q a gH gM gO gP n)) (Sep (BO gM (.cells (rowN (n * 3) mv) 47 (0, 0))) (Sep (BO gO (.cells (rowN n ov) 4 (0, 0))) (Sep (BO gP (.cells (rowN n pv) 4 (0, 0)))
    (Sep (AX q (pg : Int) (n : Int) p r s pg [] 1 rl) (Sep (MX a (pg : Int) (n : Int) p' r' s2 pg [] 1 rl) (Sep (Many (hvR hv L) n) (Sep (Many (msR (pg : Int) (n : Int) S) n) R)))))))) := by unfold GameB; ac_rfl
theorem GameB.mxOut : GameB gb q p r a p' r' gH gM gO gP pg n s s2 rl hv mv ov pv L S R = Sep (MH a p' r' (pg : Int) (n : Int)) (Sep (S2 p' s2) (Sep (RX r' pg [] 1 rl) (Sep (BO gb (gameO q a gH gM gO gP n)) (Sep (BO gH (.cells (rowN n hv) 54 (0, 0))) (Sep (BO gM (.cells (rowN (n * 3) mv) 47 (0, 0))) (Sep (BO gO (.cells (rowN n ov) 4 (0, 0))) (Sep (BO gP (.cells (rowN n pv) 4 (0, 0)))
    (Sep (AX q (pg : Int) (n : Int) p r s pg [] 1 rl) (Sep (Many (hvR hv L) n) (Sep (Many (msR (pg : Int) (n : Int) S) n) R)))))))))) := by unfold GameB MX; ac_rfl
theorem GameB.pagesOut (ht : t < n) : GameB gb q p r a p' r' gH gM gO gP pg n s s2 rl hv mv ov pv L S R = Sep (HvR (hv t) (L t)) (Sep (BO gb (gameO q a gH gM gO gP n)) (Sep (BO gH (.cells (rowN n hv) 54 (0, 0))) (Sep (BO gM (.cells (rowN (n * 3) mv) 47 (0, 0))) (Sep (BO gO (.cells (rowN n ov) 4 (0, 0))) (Sep (BO gP (.cells (rowN n pv) 4 (0, 0)))
    (Sep (AX q (pg : Int) (n : Int) p r s pg [] 1 rl) (Sep (MX a (pg : Int) (n : Int) p' r' s2 pg [] 1 rl) (Sep (Many (upd (hvR hv L) t Nought) n) (Sep (Many (msR (pg : Int) (n : Int) S) n) R))))))))) := by
  unfold GameB
  rw [Many.at (hvR hv L) t n ht]
  show Sep _ (Sep _ (Sep _ (Sep _ (Sep _ (Sep _ (Sep _ (Sep (Sep (HvR (hv t) (L t)) _) _))))))) = _
  ac_rfl
theorem Own.gOn (h : Own (GameB gb q p r a p' r' gH gM gO gP pg n s s2 rl hv mv ov pv L S R) w0 w) (ht : t < n) : w.cell? ⟨gO, t, none⟩ = some (ov t) := (cell_of_heap (h.has GameB.onOut)).trans (rowN_get _ ht)
theorem Own.gPush (h : Own (GameB gb q p r a p' r' gH gM gO gP pg n s s2 rl hv mv ov pv L S R) w0 w) (ht : t < n) : w.cell? ⟨gP, t, none⟩ = some (pv t) := (cell_of_heap (h.has GameB.pushOut)).trans (rowN_get _ ht)
theorem Own.gMach (h : Own (GameB gb q p r a p' r' gH gM gO gP pg n s s2 rl hv mv ov pv L S R) w0 w) {j : Nat} (hj : j < n * 3) : w.cell? ⟨gM, j, none⟩ = some (mv j) := (cell_of_heap (h.has GameB.machOut)).trans (rowN_get _ hj)
theorem Own.gOnSet (lR : Loc R) (h : Own (GameB gb q p r a p' r' gH gM gO gP pg n s s2 rl hv mv ov pv L S R) w0 w) (v : Value) : Own (GameB gb q p r a p' r' gH gM gO gP pg n s s2 rl hv mv (upd ov t v) pv L S R) w0 (w.setCell ⟨gO, t, none⟩ v) := by
  have := Own.boSet (Loc.bo.sep (Loc.bo.sep (Loc.bo.sep (Loc.bo.sep (Loc.ax.sep (Loc.mx.sep ((Loc.many (fun _ => Loc.hvR) n).sep ((Loc.many Loc.ms n).sep lR)))))))) (h.cast GameB.onOut) t v
  rw [rowN_set] at this
  exact this.cast GameB.onOut.symm
theorem Own.gPushSet (lR : Loc R) (h : Own (GameB gb q p r a p' r' gH gM gO gP pg n s s2 rl hv mv ov pv L S R) w0 w) (v : Value) : Own (GameB gb q p r a p' r' gH gM gO gP pg n s s2 rl hv mv ov (upd pv t v) L S R) w0 (w.setCell ⟨gP, t, none⟩ v) := by
  have := Own.boSet (Loc.bo.sep (Loc.bo.sep (Loc.bo.sep (Loc.bo.sep (Loc.ax.sep (Loc.mx.sep ((Loc.many (fun _ => Loc.hvR) n).sep ((Loc.many Loc.ms n).sep lR)))))))) (h.cast GameB.pushOut) t v
  rw [rowN_set] at this
  exact this.cast GameB.pushOut.symm
theorem Own.gMachSet (lR : Loc R) (h : Own (GameB gb q p r a p' r' gH gM gO gP pg n s s2 rl hv mv ov pv L S R) w0 w) (x y z : Value) : Own (GameB gb q p r a p' r' gH gM gO gP pg n s s2 rl hv (upd3 mv t x y z) ov pv L S R) w0 (((w.setCell ⟨gM, t * 3, none⟩ x).setCell ⟨gM, t * 3 + 1, none⟩ y).setCell ⟨gM, t * 3 + 2, none⟩ z) := by
  have := Own.boSet (Loc.bo.sep (Loc.bo.sep (Loc.bo.sep (Loc.bo.sep (Loc.ax.sep (Loc.mx.sep ((Loc.many (fun _ => Loc.hvR) n).sep ((Loc.many Loc.ms n).sep lR)))))))) (Own.boSet (Loc.bo.sep (Loc.bo.sep (Loc.bo.sep (Loc.bo.sep (Loc.ax.sep (Loc.mx.sep ((Loc.many (fun _ => Loc.hvR) n).sep ((Loc.many Loc.ms n).sep lR)))))))) (Own.boSet (Loc.bo.sep (Loc.bo.sep (Loc.bo.sep (Loc.bo.sep (Loc.ax.sep (Loc.mx.sep ((Loc.many (fun _ => Loc.hvR) n).sep ((Loc.many Loc.ms n).sep lR)))))))) (h.cast GameB.machOut) (t * 3) x) (t * 3 + 1) y) (t * 3 + 2) z
  rw [rowN_set, rowN_set, rowN_set] at this
  exact this.cast GameB.machOut.symm
end

theorem headN (x : Int) (j : Nat) (hj : j < 3) (hx : x = ((7 * j : Nat) : Int)) (w : World) : Calls Try.prog 17 #[.int .i64 x] w fun e w' => e = .returned (.int .i64 ((hdw j : Nat) : Int)) ∧ w' = w := by
  refine (lawHead x (by omega) (by omega) w).mono ?_
  rintro e w1 ⟨rfl, h⟩
  refine ⟨?_, h⟩
  rw [show 8 + x % 60 = ((hdw j : Nat) : Int) from by unfold hdw; omega]
section
variable {R : Res} {gb q p r a p' r' gH gM gO gP pg n t : Nat} {s s2 : St} {rl : RL} {hv mv ov pv : Nat → Value} {L : Nat → List Int} {S : Nat → MS} {w0 w : World}
theorem HvR.form {v : Value} {l : List Int} {R : Res} (h : Own (Sep (HvR v l) R) w0 w) : ∃ ao cap, v = .slice ao l.length cap := by
  obtain ⟨_, ⟨_, _, a, _⟩, _⟩ := h
  rcases a.1.2 with ⟨e, h0⟩ | ⟨g, cap, cur, e, _⟩
  · exact ⟨none, 0, by rw [e, h0]⟩
  · exact ⟨_, _, e⟩
set_option maxRecDepth 100000 in
set_option maxHeartbeats 4000000 in
theorem beginMiss (lR : Loc R) (h : Own (GameB gb q p r a p' r' gH gM gO gP pg n s s2 rl hv mv ov pv L S R) w0 w) (ht : t < n) (_hn : n ≤ 6) (hoff : S t = .off) (hat : (S t).at mv t) (k : Nat) (hk : k < 256) (hw : k % 2 = 1 ∨ (L t).length = 0) (len : Nat) (hl : (L t).length = len) (hl2 : len ≤ 60) {ob pb : Bool} (hov : ov t = .bool ob) (hpv : pv t = .bool pb) (hH : Lay.isHead (pg : Int) (n : Int) ((hdw (k / 2 % 3) : Nat) : Int) = true) :
    Calls Try.prog 9 #[.pointer (some ⟨gb, 0, none⟩), .int .i64 (t : Int), .int .i64 (k : Int)] w fun e w' => e = .returned (.bool true) ∧ Hid (∃ m b v l, PopIs (pg : Int) ⟨0, 0, 0, 0⟩ v l ∧ l = [] ∧
      Own (GameB gb q p r a p' r' gH gM gO gP pg n s s2 rl hv (upd3 mv t (.pointer (some ⟨m, 0, none⟩)) (.pointer none) (.pointer (some ⟨b, 0, none⟩))) (upd ov t (.bool true)) (upd pv t (.bool false)) L (upd S t (.pop m b v l (k / 2 % 3) ⟨0, 0, 0, 0⟩)) R) w0 w') := by
  obtain ⟨ao, cap, hvt⟩ := HvR.form (h.cast (GameB.pagesOut ht))
  rw [hl] at hvt hw
  have q0 := h.gHead
  have c2 : w.cell? ⟨gb, 2, none⟩ = some (.slice (some ⟨gH, 0, none⟩) n n) := cell_of_heap q0
  have c5 : w.cell? ⟨gb, 5, none⟩ = some (.slice (some ⟨gP, 0, none⟩) n n) := cell_of_heap q0
  have ch : w.cell? ⟨gH, t, none⟩ = some (.slice ao len cap) := (h.gHave ht).trans (by rw [hvt])
  have cp : w.cell? ⟨gP, t, none⟩ = some (.bool pb) := (h.gPush ht).trans (by rw [hpv])
  have cfz : w.frozen? ⟨gP, t, none⟩ = false := frozen_of_heap (h.has GameB.pushOut)
  have HD := fun w => headN ((((k : Int) / 2) % 3) * 7) (k / 2 % 3) (by omega) (by omega) w
  have O := hide h
  have HH := hide hH
  rw [hoff] at hat
  obtain ⟨pa, pb', pm, m0, m1, m2⟩ := hat
  have M0 := hide m0
  have M1 := hide m1
  have M2 := hide m2
  have HOV := hide hov
  have HOF := hide hoff
  clear h q0 hov hpv hvt hH hl m0 m1 m2 hoff
  have dw : ((k : Int) % 2 = 1) ∨ ((k : Int) % 2 = 0 ∧ len = 0) := by omega
  clear hw
  go_enter Try.func9, Try.ntmps9
  go_upto_region 4 with (go_at_call 17; refine (HD _).mono ?_; rintro e w1 ⟨rfl, rfl⟩)
  rcases dw with d1 | ⟨d1, rfl⟩ <;> (
    go_upto_region 5 with fail
    have O1 := hide (O.out.gPushSet (t := t) lR (.bool false))
    clear c2 c5 ch cp cfz O
    generalize w1.setCell ⟨gP, t, none⟩ (.bool false) = w2 at *
    have q1 := O1.out.gHead
    have e5 : w2.cell? ⟨gb, 5, none⟩ = some (.slice (some ⟨gP, 0, none⟩) n n) := cell_of_heap q1
    have ep : w2.cell? ⟨gP, t, none⟩ = some (.bool false) := (O1.out.gPush ht).trans (by rw [upd_at])
    clear q1
    go_upto_region 8 with fail
    have lG := Loc.gameB (gb := gb) (q := q) (p := p) (r := r) (a := a) (p' := p') (r' := r') (gH := gH) (gM := gM) (gO := gO) (gP := gP) (pg := pg) (n := n) (s := s) (s2 := s2) (rl := rl) (hv := hv) (mv := mv) (ov := ov) (pv := upd pv t (.bool false)) (L := L) (S := S) lR
    have GC : Hid (∀ (mv : Nat → Value) (S : Nat → MS) (u : World), Own (GameB gb q p r a p' r' gH gM gO gP pg n s s2 rl hv mv ov (upd pv t (.bool false)) L S R) w0 u → Cel gb 1 (.pointer (some ⟨a, 0, none⟩)) u ∧ Cel gb 3 (.slice (some ⟨gM, 0, none⟩) n n) u ∧ Cel a 2 (.int .i64 (pg : Int)) u ∧ Cel a 3 (.int .i64 (n : Int)) u) := hide (fun mv S u h => ⟨cell_of_heap h.gHead, cell_of_heap h.gHead, cell_of_heap (h.mhead GameB.mxOut), cell_of_heap (h.mhead GameB.mxOut)⟩)
    have O2 := hide (O1.out.below lG ((Alike.drewN w2 1).below _))
    have J1 : Hid ((fun u => Cel gb 1 (.pointer (some ⟨a, 0, none⟩)) u ∧ Cel gb 3 (.slice (some ⟨gM, 0, none⟩) n n) u ∧ Cel a 2 (.int .i64 (pg : Int)) u ∧ Cel a 3 (.int .i64 (n : Int)) u) w2.drew) := hide (GC.out _ _ _ O2.out)
    have hne : Nonempty (Mem (fun u => Cel gb 1 (.pointer (some ⟨a, 0, none⟩)) u ∧ Cel gb 3 (.slice (some ⟨gM, 0, none⟩) n n) u ∧ Cel a 2 (.int .i64 (pg : Int)) u ∧ Cel a 3 (.int .i64 (n : Int)) u)) := ⟨⟨_, J1.out⟩⟩
    have U1 : ∀ u : Mem (fun u => Cel gb 1 (.pointer (some ⟨a, 0, none⟩)) u ∧ Cel gb 3 (.slice (some ⟨gM, 0, none⟩) n n) u ∧ Cel a 2 (.int .i64 (pg : Int)) u ∧ Cel a 3 (.int .i64 (n : Int)) u), u.w'.cell? ⟨gb, 1, none⟩ = some (.pointer (some ⟨a, 0, none⟩)) := fun u => u.h.1
    have U2 : ∀ u : Mem (fun u => Cel gb 1 (.pointer (some ⟨a, 0, none⟩)) u ∧ Cel gb 3 (.slice (some ⟨gM, 0, none⟩) n n) u ∧ Cel a 2 (.int .i64 (pg : Int)) u ∧ Cel a 3 (.int .i64 (n : Int)) u), u.w'.cell? ⟨gb, 3, none⟩ = some (.slice (some ⟨gM, 0, none⟩) n n) := fun u => u.h.2.1
    have U3 : ∀ u : Mem (fun u => Cel gb 1 (.pointer (some ⟨a, 0, none⟩)) u ∧ Cel gb 3 (.slice (some ⟨gM, 0, none⟩) n n) u ∧ Cel a 2 (.int .i64 (pg : Int)) u ∧ Cel a 3 (.int .i64 (n : Int)) u), u.w'.cell? ⟨a, 2, none⟩ = some (.int .i64 (pg : Int)) := fun u => u.h.2.2.1
    have U4 : ∀ u : Mem (fun u => Cel gb 1 (.pointer (some ⟨a, 0, none⟩)) u ∧ Cel gb 3 (.slice (some ⟨gM, 0, none⟩) n n) u ∧ Cel a 2 (.int .i64 (pg : Int)) u ∧ Cel a 3 (.int .i64 (n : Int)) u), u.w'.cell? ⟨a, 3, none⟩ = some (.int .i64 (n : Int)) := fun u => u.h.2.2.2
    clear e5 ep
    refine region_start (J := fun u => Cel gb 1 (.pointer (some ⟨a, 0, none⟩)) u ∧ Cel gb 3 (.slice (some ⟨gM, 0, none⟩) n n) u ∧ Cel a 2 (.int .i64 (pg : Int)) u ∧ Cel a 3 (.int .i64 (n : Int)) u) (by kernel_rfl) ?_
    refine stretch (fuel := 7) (by kernel_rfl) (fun _ _ _ _ _ h => h) J1.out [0, 1, 2, 3, 4, 5, 6, 7, 8, 9, 10, 11, 12] (by kernel_rfl) ?_
    simp only [List.filterMap_cons, List.filterMap_nil, List.getElem?_toArray, List.getElem?_cons_zero, List.getElem?_cons_succ]
    show wpQuiet _ _ _ _ [_, _, _, _, _, _, _, _, _, _, _, _, _] _
    repeat (go_big_quiet_step (fail))
    refine wpQuiet_nil ?_
    refine wpAnyJ_writer (i := 13) rfl (by kernel_rfl) (fun K' hK => ?_)
    go_simp
    refine (beginPop lG (pg : Int) (n : Int) _ 0 HH.out O2.out).mono ?_
    rintro e u3 ⟨m, b, v, l, rfl, hp, hl0, o3⟩
    have O3 := hide ((o3.cast (by show _ = Sep ((MS.pop m b v l (k / 2 % 3) ⟨0, 0, 0, 0⟩).res (pg : Int) (n : Int)) _; show _ = Sep (Sep _ (Sep _ _)) _; ac_rfl)).cast (GameB.come ht HOF.out (MS.pop m b v l (k / 2 % 3) ⟨0, 0, 0, 0⟩)).symm)
    have HP := hide hp
    have HL0 := hide hl0
    have J3 : Hid ((fun u => Cel gb 1 (.pointer (some ⟨a, 0, none⟩)) u ∧ Cel gb 3 (.slice (some ⟨gM, 0, none⟩) n n) u ∧ Cel a 2 (.int .i64 (pg : Int)) u ∧ Cel a 3 (.int .i64 (n : Int)) u) u3) := hide (GC.out _ _ _ O3.out)
    refine hK _ _ J3.out ?_
    clear hK K' o3 hp hl0 J1
    refine stretch (fuel := 2) (by kernel_rfl) (fun _ _ _ _ _ h => h) J3.out [14, 15, 16, 17] (by kernel_rfl) ?_
    simp only [List.filterMap_cons, List.filterMap_nil, List.getElem?_toArray, List.getElem?_cons_zero, List.getElem?_cons_succ]
    show wpQuiet _ _ _ _ [_, _, _, _] _
    repeat (go_big_quiet_step (fail))
    refine wpQuiet_nil ?_
    have z0 : u3.cell? ⟨gM, t * 3, none⟩ = some (.pointer pa) := (O3.out.gMach (j := t * 3) (by omega)).trans (congrArg some M0.out)
    have z1 : u3.cell? ⟨gM, t * 3 + 1, none⟩ = some (.pointer pb') := (O3.out.gMach (j := t * 3 + 1) (by omega)).trans (congrArg some M1.out)
    have z2 : u3.cell? ⟨gM, t * 3 + 2, none⟩ = some (.pointer pm) := (O3.out.gMach (j := t * 3 + 2) (by omega)).trans (congrArg some M2.out)
    have zf : ∀ o, u3.frozen? ⟨gM, o, none⟩ = false := fun o => frozen_of_heap (O3.out.has GameB.machOut)
    refine wpAnyJ_writer (i := 18) rfl (by kernel_rfl) (fun K' hK => ?_)
    go_simp
    have O4 := hide (O3.out.gMachSet (t := t) lR (.pointer (some ⟨m, 0, none⟩)) (.pointer none) (.pointer (some ⟨b, 0, none⟩)))
    generalize ((u3.setCell ⟨gM, t * 3, none⟩ (.pointer (some ⟨m, 0, none⟩))).setCell ⟨gM, t * 3 + 1, none⟩ (.pointer none)).setCell ⟨gM, t * 3 + 2, none⟩ (.pointer (some ⟨b, 0, none⟩)) = u4 at *
    have J4 : Hid ((fun u => Cel gb 1 (.pointer (some ⟨a, 0, none⟩)) u ∧ Cel gb 3 (.slice (some ⟨gM, 0, none⟩) n n) u ∧ Cel a 2 (.int .i64 (pg : Int)) u ∧ Cel a 3 (.int .i64 (n : Int)) u) u4) := hide (GC.out _ _ _ O4.out)
    refine hK _ _ J4.out ?_
    clear hK K' z0 z1 z2 zf
    refine stretch (fuel := 0) (by kernel_rfl) (fun _ _ _ _ _ h => h) J4.out [19] (by kernel_rfl) ?_
    simp only [List.filterMap_cons, List.filterMap_nil, List.getElem?_toArray, List.getElem?_cons_zero, List.getElem?_cons_succ]
    show wpQuiet _ _ _ _ [_] _
    repeat (go_big_quiet_step (fail))
    refine wpQuiet_nil ?_
    refine wpAnyJ_done (by kernel_rfl) ?_
    have y4 : u4.cell? ⟨gb, 4, none⟩ = some (.slice (some ⟨gO, 0, none⟩) n n) := cell_of_heap O4.out.gHead
    have yo : u4.cell? ⟨gO, t, none⟩ = some (.bool ob) := (O4.out.gOn ht).trans (congrArg some HOV.out)
    have yf : u4.frozen? ⟨gO, t, none⟩ = false := frozen_of_heap (O4.out.has GameB.onOut)
    have O5 := hide (O4.out.gOnSet (t := t) lR (.bool true))
    clear U1 U2 U3 U4 hne
    go_wp2_with fail
    go_ret
    exact ⟨rfl, hide ⟨m, b, v, l, HP.out, List.eq_nil_of_length_eq_zero HL0.out, O5.out⟩⟩)
end
section
variable {R : Res} {gb q p r a p' r' gH gM gO gP pg n t : Nat} {s s2 : St} {rl : RL} {hv mv ov pv : Nat → Value} {L : Nat → List Int} {S : Nat → MS} {w0 w : World}
theorem HvR.cut {g cap : Nat} {l : List Int} {x : Int} {W : World} {G : Nat → Prop} (h : HvR (.slice (some ⟨g, 0, none⟩) (l.length + 1) cap) (l ++ [x]) W G) : HvR (.slice (some ⟨g, 0, none⟩) l.length cap) l W G := by
  obtain ⟨⟨_, h2⟩, h3⟩ := h
  refine ⟨⟨by simp [intVals], ?_⟩, h3⟩
  rcases h2 with ⟨e, _⟩ | ⟨g', cap', cur, e, hb, hg, h4, h5, h6, h7⟩
  · cases e
  · simp only [Value.slice.injEq, Option.some.injEq, Addr.mk.injEq] at e
    obtain ⟨⟨rfl, _, _⟩, _, rfl⟩ := e
    refine .inr ⟨g, cap, cur, rfl, hb, hg, by simp at h4; omega, h5, h6, ?_⟩
    have := congrArg (List.take l.length) h7
    rw [List.take_take] at this
    simp [intVals] at this ⊢
    exact this
theorem Own.hvCut {g cap : Nat} {l : List Int} {x : Int} (h : Own (Sep (HvR (.slice (some ⟨g, 0, none⟩) (l.length + 1) cap) (l ++ [x])) R) w0 w) : Own (Sep (HvR (.slice (some ⟨g, 0, none⟩) l.length cap) l) R) w0 w := by
  obtain ⟨G, ⟨G1, G2, a1, r, c, d⟩, h2, h3⟩ := h
  exact ⟨G, ⟨G1, G2, HvR.cut a1, r, c, d⟩, h2, h3⟩
theorem Own.hvForm {v : Value} {l : List Int} {x : Int} (h : Own (Sep (HvR v (l ++ [x])) R) w0 w) : ∃ g cap, v = .slice (some ⟨g, 0, none⟩) (l.length + 1) cap ∧ w.cell? ⟨g, l.length, none⟩ = some (.int .i64 x) ∧ l.length + 1 ≤ cap := by
  obtain ⟨_, ⟨_, _, a, _⟩, _⟩ := h
  have ha := a.1
  rcases a.1.2 with ⟨e, h0⟩ | ⟨g, cap, cur, e, _, _, hcap, _⟩
  · simp at h0
  · have e' : v = .slice (some ⟨g, 0, none⟩) (l.length + 1) cap := by rw [e]; simp
    refine ⟨g, cap, e', ?_, by simp at hcap; omega⟩
    rw [e] at ha
    refine (ha.cellAt l.length (by simp)).trans ?_
    simp [intVals]
/-- A thread's pages are other ones. -/
theorem GameB.pagesBack (ht : t < n) (v : Value) (l : List Int) : Sep (HvR v l) (Sep (BO gb (gameO q a gH gM gO gP n)) (Sep (BO gH (.cells (rowN n (upd hv t v)) 54 (0, 0))) (Sep (BO gM (.cells (rowN (n * 3) mv) 47 (0, 0))) (Sep (BO gO (.cells (rowN n ov) 4 (0, 0))) (Sep (BO gP (.cells (rowN n pv) 4 (0, 0)))
    (Sep (AX q (pg : Int) (n : Int) p r s pg [] 1 rl) (Sep (MX a (pg : Int) (n : Int) p' r' s2 pg [] 1 rl) (Sep (Many (upd (hvR hv L) t Nought) n) (Sep (Many (msR (pg : Int) (n : Int) S) n) R))))))))) = GameB gb q p r a p' r' gH gM gO gP pg n s s2 rl (upd hv t v) mv ov pv (upd L t l) S R := by
  unfold GameB
  rw [hvR_upd, Many.put (hvR hv L) t (HvR v l) n ht]
  ac_rfl
/-- The row's cell of a thread's pages is another one, and so are the pages that lie there. -/
theorem Own.gCut (lR : Loc R) (ht : t < n) {g cap : Nat} {l : List Int} {x : Int} (hL : L t = l ++ [x]) (hv' : hv t = .slice (some ⟨g, 0, none⟩) (l.length + 1) cap) (h : Own (GameB gb q p r a p' r' gH gM gO gP pg n s s2 rl hv mv ov pv L S R) w0 w) :
    Own (GameB gb q p r a p' r' gH gM gO gP pg n s s2 rl (upd hv t (.slice (some ⟨g, 0, none⟩) l.length cap)) mv ov pv (upd L t l) S R) w0 (w.setCell ⟨gH, t, none⟩ (.slice (some ⟨g, 0, none⟩) l.length cap)) := by
  have h1 := h.cast (GameB.pagesOut ht)
  rw [hL, hv'] at h1
  have h2 := h1.hvCut
  have h3 := Own.boSet (Loc.hvR.sep (Loc.bo.sep (Loc.bo.sep (Loc.bo.sep (Loc.bo.sep (Loc.ax.sep (Loc.mx.sep ((Loc.rest (f := hvR hv L) (fun _ => Loc.hvR) t n).sep ((Loc.many Loc.ms n).sep lR))))))))) (h2.cast (R' := Sep (BO gH (.cells (rowN n hv) 54 (0, 0))) (Sep (HvR (.slice (some ⟨g, 0, none⟩) l.length cap) l) (Sep (BO gb (gameO q a gH gM gO gP n)) (Sep (BO gM (.cells (rowN (n * 3) mv) 47 (0, 0))) (Sep (BO gO (.cells (rowN n ov) 4 (0, 0))) (Sep (BO gP (.cells (rowN n pv) 4 (0, 0)))
    (Sep (AX q (pg : Int) (n : Int) p r s pg [] 1 rl) (Sep (MX a (pg : Int) (n : Int) p' r' s2 pg [] 1 rl) (Sep (Many (upd (hvR hv L) t Nought) n) (Sep (Many (msR (pg : Int) (n : Int) S) n) R)))))))))) (by ac_rfl)) t (.slice (some ⟨g, 0, none⟩) l.length cap)
  rw [rowN_set] at h3
  refine (h3.cast ?_).cast (GameB.pagesBack ht _ _)
  ac_rfl
set_option maxRecDepth 100000 in
set_option maxHeartbeats 4000000 in
theorem beginHit (lR : Loc R) (h : Own (GameB gb q p r a p' r' gH gM gO gP pg n s s2 rl hv mv ov pv L S R) w0 w) (ht : t < n) (_hn : n ≤ 6) (hoff : S t = .off) (hat : (S t).at mv t) (k : Nat) (hk : k < 256) (hw : k % 2 = 0) (l0 : List Int) (x : Int) (hL : L t = l0 ++ [x]) (k0 : Nat) (hk0 : l0.length = k0) (hl2 : k0 ≤ 60) {ob pb : Bool} (hov : ov t = .bool ob) (hpv : pv t = .bool pb) (hH : Lay.isHead (pg : Int) (n : Int) ((hdw (k / 2 % 3) : Nat) : Int) = true) (hx : (Lay.page (pg : Int) (n : Int) 11 x).2 = true) :
    Calls Try.prog 9 #[.pointer (some ⟨gb, 0, none⟩), .int .i64 (t : Int), .int .i64 (k : Int)] w fun e w' => e = .returned (.bool true) ∧ Hid (∃ m b v l, PushIs ⟨0, 0, x⟩ v l ∧ l = [] ∧ ∃ v',
      Own (GameB gb q p r a p' r' gH gM gO gP pg n s s2 rl (upd hv t v') (upd3 mv t (.pointer none) (.pointer (some ⟨m, 0, none⟩)) (.pointer (some ⟨b, 0, none⟩))) (upd ov t (.bool true)) (upd pv t (.bool true)) (upd L t l0) (upd S t (.push m b v l (k / 2 % 3) ⟨0, 0, x⟩)) R) w0 w') := by
  obtain ⟨g, cap, hvt, cg, hcap⟩ := (hL ▸ h.cast (GameB.pagesOut ht)).hvForm
  rw [hk0] at hvt cg hcap
  have q0 := h.gHead
  have c2 : w.cell? ⟨gb, 2, none⟩ = some (.slice (some ⟨gH, 0, none⟩) n n) := cell_of_heap q0
  have c5 : w.cell? ⟨gb, 5, none⟩ = some (.slice (some ⟨gP, 0, none⟩) n n) := cell_of_heap q0
  have ch : w.cell? ⟨gH, t, none⟩ = some (.slice (some ⟨g, 0, none⟩) (k0 + 1) cap) := (h.gHave ht).trans (by rw [hvt])
  have cp : w.cell? ⟨gP, t, none⟩ = some (.bool pb) := (h.gPush ht).trans (by rw [hpv])
  have cfz : w.frozen? ⟨gP, t, none⟩ = false := frozen_of_heap (h.has GameB.pushOut)
  have HD := fun w => headN ((((k : Int) / 2) % 3) * 7) (k / 2 % 3) (by omega) (by omega) w
  have O := hide h
  have HH := hide hH
  have HX := hide hx
  rw [hoff] at hat
  obtain ⟨pa, pb', pm, m0, m1, m2⟩ := hat
  have M0 := hide m0
  have M1 := hide m1
  have M2 := hide m2
  have HOV := hide hov
  have HOF := hide hoff
  have HVT := hide hvt
  have HLL := hide hL
  have HK0 := hide hk0
  clear h q0 hov hpv hvt hH m0 m1 m2 hoff hL hk0 cg hx
  have dw : (k : Int) % 2 = 0 := by omega
  clear hw
  go_enter Try.func9, Try.ntmps9
  go_upto_region 4 with (go_at_call 17; refine (HD _).mono ?_; rintro e w1 ⟨rfl, rfl⟩)
  go_upto_region 5 with fail
  have O1 := hide (O.out.gPushSet (t := t) lR (.bool true))
  clear c2 c5 ch cp cfz O
  generalize w1.setCell ⟨gP, t, none⟩ (.bool true) = w2 at *
  have q1 := O1.out.gHead
  have e5 : w2.cell? ⟨gb, 5, none⟩ = some (.slice (some ⟨gP, 0, none⟩) n n) := cell_of_heap q1
  have ep : w2.cell? ⟨gP, t, none⟩ = some (.bool true) := (O1.out.gPush ht).trans (by rw [upd_at])
  clear q1
  go_upto_region 6 with fail
  have lG := Loc.gameB (gb := gb) (q := q) (p := p) (r := r) (a := a) (p' := p') (r' := r') (gH := gH) (gM := gM) (gO := gO) (gP := gP) (pg := pg) (n := n) (s := s) (s2 := s2) (rl := rl) (hv := hv) (mv := mv) (ov := ov) (pv := upd pv t (.bool true)) (L := L) (S := S) lR
  have GC : Hid (∀ (mv : Nat → Value) (S : Nat → MS) (u : World), Own (GameB gb q p r a p' r' gH gM gO gP pg n s s2 rl hv mv ov (upd pv t (.bool true)) L S R) w0 u → Cel gb 1 (.pointer (some ⟨a, 0, none⟩)) u ∧ Cel gb 3 (.slice (some ⟨gM, 0, none⟩) n n) u ∧ Cel a 2 (.int .i64 (pg : Int)) u ∧ Cel a 3 (.int .i64 (n : Int)) u ∧ Cel g k0 (.int .i64 x) u) := hide (fun mv S u h => ⟨cell_of_heap h.gHead, cell_of_heap h.gHead, cell_of_heap (h.mhead GameB.mxOut), cell_of_heap (h.mhead GameB.mxOut), by
    have h1 := h.cast (GameB.pagesOut ht)
    rw [HLL.out] at h1
    obtain ⟨g', cap', e1, e2, _⟩ := h1.hvForm
    rw [HVT.out] at e1
    cases e1
    rw [HK0.out] at e2
    exact e2⟩)
  have O2 := hide (O1.out.below lG ((Alike.drewN w2 1).below _))
  have J1 : Hid ((fun u => Cel gb 1 (.pointer (some ⟨a, 0, none⟩)) u ∧ Cel gb 3 (.slice (some ⟨gM, 0, none⟩) n n) u ∧ Cel a 2 (.int .i64 (pg : Int)) u ∧ Cel a 3 (.int .i64 (n : Int)) u ∧ Cel g k0 (.int .i64 x) u) w2.drew) := hide (GC.out _ _ _ O2.out)
  have hne : Nonempty (Mem (fun u => Cel gb 1 (.pointer (some ⟨a, 0, none⟩)) u ∧ Cel gb 3 (.slice (some ⟨gM, 0, none⟩) n n) u ∧ Cel a 2 (.int .i64 (pg : Int)) u ∧ Cel a 3 (.int .i64 (n : Int)) u ∧ Cel g k0 (.int .i64 x) u)) := ⟨⟨_, J1.out⟩⟩
  have U1 : ∀ u : Mem (fun u => Cel gb 1 (.pointer (some ⟨a, 0, none⟩)) u ∧ Cel gb 3 (.slice (some ⟨gM, 0, none⟩) n n) u ∧ Cel a 2 (.int .i64 (pg : Int)) u ∧ Cel a 3 (.int .i64 (n : Int)) u ∧ Cel g k0 (.int .i64 x) u), u.w'.cell? ⟨gb, 1, none⟩ = some (.pointer (some ⟨a, 0, none⟩)) := fun u => u.h.1
  have U2 : ∀ u : Mem (fun u => Cel gb 1 (.pointer (some ⟨a, 0, none⟩)) u ∧ Cel gb 3 (.slice (some ⟨gM, 0, none⟩) n n) u ∧ Cel a 2 (.int .i64 (pg : Int)) u ∧ Cel a 3 (.int .i64 (n : Int)) u ∧ Cel g k0 (.int .i64 x) u), u.w'.cell? ⟨gb, 3, none⟩ = some (.slice (some ⟨gM, 0, none⟩) n n) := fun u => u.h.2.1
  have U3 : ∀ u : Mem (fun u => Cel gb 1 (.pointer (some ⟨a, 0, none⟩)) u ∧ Cel gb 3 (.slice (some ⟨gM, 0, none⟩) n n) u ∧ Cel a 2 (.int .i64 (pg : Int)) u ∧ Cel a 3 (.int .i64 (n : Int)) u ∧ Cel g k0 (.int .i64 x) u), u.w'.cell? ⟨a, 2, none⟩ = some (.int .i64 (pg : Int)) := fun u => u.h.2.2.1
  have U4 : ∀ u : Mem (fun u => Cel gb 1 (.pointer (some ⟨a, 0, none⟩)) u ∧ Cel gb 3 (.slice (some ⟨gM, 0, none⟩) n n) u ∧ Cel a 2 (.int .i64 (pg : Int)) u ∧ Cel a 3 (.int .i64 (n : Int)) u ∧ Cel g k0 (.int .i64 x) u), u.w'.cell? ⟨a, 3, none⟩ = some (.int .i64 (n : Int)) := fun u => u.h.2.2.2.1
  have U5 : ∀ u : Mem (fun u => Cel gb 1 (.pointer (some ⟨a, 0, none⟩)) u ∧ Cel gb 3 (.slice (some ⟨gM, 0, none⟩) n n) u ∧ Cel a 2 (.int .i64 (pg : Int)) u ∧ Cel a 3 (.int .i64 (n : Int)) u ∧ Cel g k0 (.int .i64 x) u), u.w'.cell? ⟨g, k0, none⟩ = some (.int .i64 x) := fun u => u.h.2.2.2.2
  clear e5 ep
  refine region_start (J := fun u => Cel gb 1 (.pointer (some ⟨a, 0, none⟩)) u ∧ Cel gb 3 (.slice (some ⟨gM, 0, none⟩) n n) u ∧ Cel a 2 (.int .i64 (pg : Int)) u ∧ Cel a 3 (.int .i64 (n : Int)) u ∧ Cel g k0 (.int .i64 x) u) (by kernel_rfl) ?_
  refine stretch (fuel := 7) (by kernel_rfl) (fun _ _ _ _ _ h => h) J1.out [0, 1, 2, 3, 4, 5, 6, 7, 8, 9, 10, 11, 12, 13, 14, 15, 16, 17, 18] (by kernel_rfl) ?_
  simp only [List.filterMap_cons, List.filterMap_nil, List.getElem?_toArray, List.getElem?_cons_zero, List.getElem?_cons_succ]
  show wpQuiet _ _ _ _ [_, _, _, _, _, _, _, _, _, _, _, _, _, _, _, _, _, _, _] _
  repeat (go_big_quiet_step (fail))
  refine wpQuiet_nil ?_
  refine wpAnyJ_writer (i := 19) rfl (by kernel_rfl) (fun K' hK => ?_)
  go_simp
  refine (beginPush lG (pg : Int) (n : Int) _ x HH.out HX.out O2.out).mono ?_
  rintro e u3 ⟨m, b, v, l, rfl, hp, hl0, o3⟩
  have O3 := hide ((o3.cast (by show _ = Sep ((MS.push m b v l (k / 2 % 3) ⟨0, 0, x⟩).res (pg : Int) (n : Int)) _; show _ = Sep (Sep _ (Sep _ _)) _; ac_rfl)).cast (GameB.come ht HOF.out (MS.push m b v l (k / 2 % 3) ⟨0, 0, x⟩)).symm)
  have HP := hide hp
  have HL0 := hide hl0
  have J3 : Hid ((fun u => Cel gb 1 (.pointer (some ⟨a, 0, none⟩)) u ∧ Cel gb 3 (.slice (some ⟨gM, 0, none⟩) n n) u ∧ Cel a 2 (.int .i64 (pg : Int)) u ∧ Cel a 3 (.int .i64 (n : Int)) u ∧ Cel g k0 (.int .i64 x) u) u3) := hide (GC.out _ _ _ O3.out)
  refine hK _ _ J3.out ?_
  clear hK K' o3 hp hl0 J1
  refine stretch (fuel := 2) (by kernel_rfl) (fun _ _ _ _ _ h => h) J3.out [20, 21, 22, 23] (by kernel_rfl) ?_
  simp only [List.filterMap_cons, List.filterMap_nil, List.getElem?_toArray, List.getElem?_cons_zero, List.getElem?_cons_succ]
  show wpQuiet _ _ _ _ [_, _, _, _] _
  repeat (go_big_quiet_step (fail))
  refine wpQuiet_nil ?_
  have z0 : u3.cell? ⟨gM, t * 3, none⟩ = some (.pointer pa) := (O3.out.gMach (j := t * 3) (by omega)).trans (congrArg some M0.out)
  have z1 : u3.cell? ⟨gM, t * 3 + 1, none⟩ = some (.pointer pb') := (O3.out.gMach (j := t * 3 + 1) (by omega)).trans (congrArg some M1.out)
  have z2 : u3.cell? ⟨gM, t * 3 + 2, none⟩ = some (.pointer pm) := (O3.out.gMach (j := t * 3 + 2) (by omega)).trans (congrArg some M2.out)
  have zf : ∀ o, u3.frozen? ⟨gM, o, none⟩ = false := fun o => frozen_of_heap (O3.out.has GameB.machOut)
  refine wpAnyJ_writer (i := 24) rfl (by kernel_rfl) (fun K' hK => ?_)
  go_simp
  have O4 := hide (O3.out.gMachSet (t := t) lR (.pointer none) (.pointer (some ⟨m, 0, none⟩)) (.pointer (some ⟨b, 0, none⟩)))
  generalize ((u3.setCell ⟨gM, t * 3, none⟩ (.pointer none)).setCell ⟨gM, t * 3 + 1, none⟩ (.pointer (some ⟨m, 0, none⟩))).setCell ⟨gM, t * 3 + 2, none⟩ (.pointer (some ⟨b, 0, none⟩)) = u4 at *
  have J4 : Hid ((fun u => Cel gb 1 (.pointer (some ⟨a, 0, none⟩)) u ∧ Cel gb 3 (.slice (some ⟨gM, 0, none⟩) n n) u ∧ Cel a 2 (.int .i64 (pg : Int)) u ∧ Cel a 3 (.int .i64 (n : Int)) u ∧ Cel g k0 (.int .i64 x) u) u4) := hide (GC.out _ _ _ O4.out)
  refine hK _ _ J4.out ?_
  clear hK K' z0 z1 z2 zf
  refine stretch (fuel := 0) (by kernel_rfl) (fun _ _ _ _ _ h => h) J4.out [25] (by kernel_rfl) ?_
  simp only [List.filterMap_cons, List.filterMap_nil, List.getElem?_toArray, List.getElem?_cons_zero, List.getElem?_cons_succ]
  show wpQuiet _ _ _ _ [_] _
  repeat (go_big_quiet_step (fail))
  refine wpQuiet_nil ?_
  refine wpAnyJ_done (by kernel_rfl) ?_
  clear U1 U2 U3 U4 U5 hne
  go_upto_region 7 with fail
  have lG4 := Loc.gameB (gb := gb) (q := q) (p := p) (r := r) (a := a) (p' := p') (r' := r') (gH := gH) (gM := gM) (gO := gO) (gP := gP) (pg := pg) (n := n) (s := s) (s2 := s2) (rl := rl) (hv := hv) (mv := upd3 mv t (.pointer none) (.pointer (some ⟨m, 0, none⟩)) (.pointer (some ⟨b, 0, none⟩))) (ov := ov) (pv := upd pv t (.bool true)) (L := L) (S := upd S t (MS.push m b v l (k / 2 % 3) ⟨0, 0, x⟩)) lR
  have O5 := hide (O4.out.below lG4 ((Alike.drewN u4 1).below _))
  have J5 : Hid (Cel gb 2 (.slice (some ⟨gH, 0, none⟩) n n) u4.drew) := hide (cell_of_heap O5.out.gHead)
  have hne : Nonempty (Mem (Cel gb 2 (.slice (some ⟨gH, 0, none⟩) n n))) := ⟨⟨_, J5.out⟩⟩
  have U1 : ∀ u : Mem (Cel gb 2 (.slice (some ⟨gH, 0, none⟩) n n)), u.w'.cell? ⟨gb, 2, none⟩ = some (.slice (some ⟨gH, 0, none⟩) n n) := fun u => u.h
  refine region_start (J := Cel gb 2 (.slice (some ⟨gH, 0, none⟩) n n)) (by kernel_rfl) ?_
  refine stretch2 (fuel := 1) (by kernel_rfl) (fun _ _ _ _ _ h => h) J5.out [0, 1, 2, 3, 4, 5, 6, 7, 8, 9, 10] (by kernel_rfl) ?_
  simp only [List.filterMap_cons, List.filterMap_nil, List.getElem?_toArray, List.getElem?_cons_zero, List.getElem?_cons_succ]
  show wpQuiet _ _ _ _ [_, _, _, _, _, _, _, _, _, _, _] _
  repeat (go_big_quiet_step (fail))
  refine wpQuiet_nil ?_
  have z0 : u4.drew.cell? ⟨gH, t, none⟩ = some (.slice (some ⟨g, 0, none⟩) (k0 + 1) cap) := (O5.out.gHave ht).trans (congrArg some HVT.out)
  have zf : ∀ o, u4.drew.frozen? ⟨gH, o, none⟩ = false := fun o => frozen_of_heap (O5.out.has GameB.haveOut)
  refine wpAnyJ_writer (i := 11) rfl (by kernel_rfl) (fun K' hK => ?_)
  go_simp
  have o6 := O4.out.gCut lR ht HLL.out (by rw [HK0.out]; exact HVT.out)
  rw [HK0.out] at o6
  have lG6 := Loc.gameB (gb := gb) (q := q) (p := p) (r := r) (a := a) (p' := p') (r' := r') (gH := gH) (gM := gM) (gO := gO) (gP := gP) (pg := pg) (n := n) (s := s) (s2 := s2) (rl := rl) (hv := upd hv t (.slice (some ⟨g, 0, none⟩) k0 cap)) (mv := upd3 mv t (.pointer none) (.pointer (some ⟨m, 0, none⟩)) (.pointer (some ⟨b, 0, none⟩))) (ov := ov) (pv := upd pv t (.bool true)) (L := upd L t l0) (S := upd S t (MS.push m b v l (k / 2 % 3) ⟨0, 0, x⟩)) lR
  have o6' := o6.below lG6 ((Alike.drewN _ 1).below _)
  change Own _ w0 (u4.setCell ⟨gH, t, none⟩ (.slice (some ⟨g, 0, none⟩) k0 cap)).drew at o6'
  have O6 := hide o6'
  clear o6 o6' lG6
  generalize (u4.setCell ⟨gH, t, none⟩ (.slice (some ⟨g, 0, none⟩) k0 cap)).drew = u6 at *
  have J6 : Hid (Cel gb 2 (.slice (some ⟨gH, 0, none⟩) n n) u6) := hide (cell_of_heap O6.out.gHead)
  refine hK _ _ J6.out ?_
  clear hK K' z0 zf
  refine wpAnyJ_done (by kernel_rfl) ?_
  have y4 : u6.cell? ⟨gb, 4, none⟩ = some (.slice (some ⟨gO, 0, none⟩) n n) := cell_of_heap O6.out.gHead
  have yo : u6.cell? ⟨gO, t, none⟩ = some (.bool ob) := (O6.out.gOn ht).trans (congrArg some HOV.out)
  have yf : u6.frozen? ⟨gO, t, none⟩ = false := frozen_of_heap (O6.out.has GameB.onOut)
  have O7 := hide (O6.out.gOnSet (t := t) lR (.bool true))
  clear U1 hne
  go_wp2_with fail
  go_ret
  exact ⟨rfl, hide ⟨m, b, v, l, HP.out, List.eq_nil_of_length_eq_zero HL0.out, _, O7.out⟩⟩
end
end Go.Proofs.Ytafamfjgehnddaa
