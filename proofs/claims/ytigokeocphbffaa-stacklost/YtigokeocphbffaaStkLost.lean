/- What the words are in the law StackLost. -/
import Derived.Test.YtigokeocphbffaaSA
namespace Go.Proofs.Ytigokeocphbffaa
open Go.RowKit

/-- So many words, the head, two pages' words. -/
def Fx (p q : Nat) (l : List Nat) (a b c : Nat) : Prop := l.length = 324 ∧ l.getD 8 0 = a ∧ l.getD (84 + 5 * p) 0 = b ∧ l.getD (84 + 5 * q) 0 = c
theorem Fx.set8 {p q : Nat} {l : List Nat} {a b c : Nat} (h : Fx p q l a b c) (v : Nat) : Fx p q (l.set 8 v) v b c := by
  obtain ⟨h1, h2, h3, h4⟩ := h
  exact ⟨by rw [List.length_set]; exact h1, getD_set_eq _ _ _ (by omega), (getD_set_ne _ _ _ _ (by omega)).trans h3, (getD_set_ne _ _ _ _ (by omega)).trans h4⟩
theorem Fx.setp {p q : Nat} {l : List Nat} {a b c : Nat} (h : Fx p q l a b c) (hp : p < 40) (hn : p ≠ q) (v : Nat) : Fx p q (l.set (84 + 5 * p) v) a v c := by
  obtain ⟨h1, h2, h3, h4⟩ := h
  exact ⟨by rw [List.length_set]; exact h1, (getD_set_ne _ _ _ _ (by omega)).trans h2, getD_set_eq _ _ _ (by omega), (getD_set_ne _ _ _ _ (by omega)).trans h4⟩
theorem Fx.setq {p q : Nat} {l : List Nat} {a b c : Nat} (h : Fx p q l a b c) (hq : q < 40) (hn : p ≠ q) (v : Nat) : Fx p q (l.set (84 + 5 * q) v) a b v := by
  obtain ⟨h1, h2, h3, h4⟩ := h
  exact ⟨by rw [List.length_set]; exact h1, (getD_set_ne _ _ _ _ (by omega)).trans h2, (getD_set_ne _ _ _ _ (by omega)).trans h3, getD_set_eq _ _ _ (by omega)⟩

theorem next40 {p : Nat} (hp : p < 40) : Lay.page 40 1 11 (p : Int) = (84 + 5 * (p : Int), true) := by
  rw [next_in (by decide) (by omega) (by omega)]
  congr 1
theorem at40 {p : Nat} (hp : p < 40) : (Lay.page 40 1 11 (p : Int)).1.toNat = 84 + 5 * p := by rw [next40 hp]; show (84 + 5 * (p : Int)).toNat = _; omega
theorem ok40 {p : Nat} (hp : p < 40) : (Lay.page 40 1 11 (p : Int)).2 = true := by rw [next40 hp]
theorem no40 : (Lay.page 40 1 11 (-1)).2 = false := by decide
theorem pg_head (t : Nat) {p : Nat} (hp : p < 40) : Tg.page (Tg.head t p) = p := Tg.page_head t _ (by omega) (by omega)
theorem head0 : Tg.head 0 (-1) = 0 := by decide

theorem Fx.alone {p q : Nat} {l : List Nat} {b c : Nat} {t : Nat} (h : Fx p q l (Tg.head t (-1)) b c) (hp : p < 40) (hn : p ≠ q) (ht : t + 1 < 4294967296) : Fx p q (alone 40 1 8 p l) (Tg.head (t + 1) p) 0 c := by
  unfold Go.Proofs.Ytigokeocphbffaa.alone
  rw [at40 hp, h.2.1, Tg.page_head t _ (by omega) (by omega), Tg.next_head t (-1) p ht (by omega) (by omega) (by omega) (by omega)]
  exact (h.setp hp hn _).set8 _

theorem lost0 (p q : Nat) (hp : p < 40) (hn : p ≠ q) : Fx p q (alone 40 1 8 p (St.first 324).words) (Tg.head 1 p) 0 ((St.first 324).words.getD (84 + 5 * q) 0) := by
  refine Fx.alone (t := 0) (b := (St.first 324).words.getD (84 + 5 * p) 0) ⟨by rw [St.first_len], ?_, rfl, rfl⟩ hp hn (by omega)
  rw [head0]; exact St.first_last 324 8 (by omega)

theorem lostA (p q : Nat) (hp : p < 40) (hq : q < 40) (hn : p ≠ q) (c : Nat) (s1 : St) (h1 : Fx p q s1.words (Tg.head 1 p) 0 c) :
    ∃ s2 s3 s4 s5 s6 s7 s8, popN 40 1 8 ⟨0, 0, 0, 0⟩ s1 = (⟨1, Tg.head 1 p, p, 0⟩, s2) ∧ pushN 40 1 8 ⟨0, 0, q⟩ s2 = (⟨1, Tg.head 1 p, q⟩, s3) ∧ popN 40 1 8 ⟨1, Tg.head 1 p, p, 0⟩ s3 = (⟨2, Tg.head 1 p, p, -1⟩, s4) ∧ pushN 40 1 8 ⟨1, Tg.head 1 p, q⟩ s4 = (⟨2, Tg.head 1 p, q⟩, s5) ∧
      popN 40 1 8 ⟨0, 0, 0, 0⟩ s5 = (⟨1, Tg.head 1 p, p, 0⟩, s6) ∧ popN 40 1 8 ⟨1, Tg.head 1 p, p, 0⟩ s6 = (⟨2, Tg.head 1 p, p, -1⟩, s7) ∧ popN 40 1 8 ⟨2, Tg.head 1 p, p, -1⟩ s7 = (⟨3, Tg.head 1 p, p, -1⟩, s8) ∧
      (s1.words.length = 324 ∧ s2.words.length = 324 ∧ s3.words.length = 324 ∧ s4.words.length = 324 ∧ s5.words.length = 324 ∧ s6.words.length = 324 ∧ s7.words.length = 324) ∧ Fx p q s8.words (Tg.head 2 (-1)) 0 (p + 1) := by
  have pg := pg_head 1 hp
  obtain ⟨s2, e2, w2, _⟩ := pop_load 40 1 8 0 0 0 s1 _ h1.2.1 _ pg (ok40 hp)
  have f2 : Fx p q s2.words (Tg.head 1 p) 0 c := by rw [w2]; exact h1
  obtain ⟨s3, e3, w3, _⟩ := push_load 40 1 8 0 q s2 _ f2.2.1
  have f3 : Fx p q s3.words (Tg.head 1 p) 0 c := by rw [w3]; exact f2
  obtain ⟨s4, e4, w4, _⟩ := pop_link 40 1 8 0 (Tg.head 1 p) p s3 _ (at40 hp) 0 f3.2.2.1
  have f4 : Fx p q s4.words (Tg.head 1 p) 0 c := by rw [w4]; exact f3
  obtain ⟨s5, e5, w5, _⟩ := push_put 40 1 8 (Tg.head 1 p) q s4 _ (at40 hq) (p + 1) (by rw [pg]; omega)
  have f5 : Fx p q s5.words (Tg.head 1 p) 0 (p + 1) := by rw [w5]; exact f4.setq hq hn _
  obtain ⟨s6, e6, w6, _⟩ := pop_load 40 1 8 0 0 0 s5 _ f5.2.1 _ pg (ok40 hp)
  have f6 : Fx p q s6.words (Tg.head 1 p) 0 (p + 1) := by rw [w6]; exact f5
  obtain ⟨s7, e7, w7, _⟩ := pop_link 40 1 8 0 (Tg.head 1 p) p s6 _ (at40 hp) 0 f6.2.2.1
  have f7 : Fx p q s7.words (Tg.head 1 p) 0 (p + 1) := by rw [w7]; exact f6
  obtain ⟨s8, e8, w8, _⟩ := pop_won 40 1 8 (-1) (Tg.head 1 p) p s7 f7.2.1 (Tg.head 2 (-1)) (Tg.next_head 1 p (-1) (by omega) (by omega) (by omega) (by omega) (by omega))
  exact ⟨s2, s3, s4, s5, s6, s7, s8, e2, e3, e4, e5, e6, e7, e8, ⟨h1.1, f2.1, f3.1, f4.1, f5.1, f6.1, f7.1⟩, by rw [w8]; exact f7.set8 _⟩

theorem lostB (p q : Nat) (hp : p < 40) (s9 : St) (h : Fx p q s9.words (Tg.head 3 p) 0 (p + 1)) :
    ∃ s10 s11 s12 s13, (popN 40 1 8 ⟨2, Tg.head 1 p, p, -1⟩ s9 = (⟨0, Tg.head 1 p, p, -1⟩, s10) ∧ s10.kind = 4) ∧ (popN 40 1 8 ⟨0, Tg.head 1 p, p, -1⟩ s10 = (⟨1, Tg.head 3 p, p, -1⟩, s11) ∧ s11.kind = 1) ∧ (popN 40 1 8 ⟨1, Tg.head 3 p, p, -1⟩ s11 = (⟨2, Tg.head 3 p, p, -1⟩, s12) ∧ s12.kind = 1) ∧ (popN 40 1 8 ⟨2, Tg.head 3 p, p, -1⟩ s12 = (⟨3, Tg.head 3 p, p, -1⟩, s13) ∧ s13.kind = 3) ∧
      (s9.words.length = 324 ∧ s10.words.length = 324 ∧ s11.words.length = 324 ∧ s12.words.length = 324 ∧ s13.words.length = 324) ∧ lst s13.words 40 1 40 (Tg.page (s13.words.getD 8 0)) = [] := by
  obtain ⟨s10, e10, w10, k10⟩ := pop_lost 40 1 8 (-1) (Tg.head 1 p) p s9 (by rw [h.2.1]; exact Tg.head_ne (by omega) (by omega) (by omega) (by omega) (by omega))
  have f10 : Fx p q s10.words (Tg.head 3 p) 0 (p + 1) := by rw [w10]; exact h
  obtain ⟨s11, e11, w11, k11⟩ := pop_load 40 1 8 (-1) (Tg.head 1 p) p s10 _ f10.2.1 _ (pg_head 3 hp) (ok40 hp)
  have f11 : Fx p q s11.words (Tg.head 3 p) 0 (p + 1) := by rw [w11]; exact f10
  obtain ⟨s12, e12, w12, k12⟩ := pop_link 40 1 8 (-1) (Tg.head 3 p) p s11 _ (at40 hp) 0 f11.2.2.1
  have f12 : Fx p q s12.words (Tg.head 3 p) 0 (p + 1) := by rw [w12]; exact f11
  obtain ⟨s13, e13, w13, k13⟩ := pop_won 40 1 8 (-1) (Tg.head 3 p) p s12 f12.2.1 (Tg.head 4 (-1)) (Tg.next_head 3 p (-1) (by omega) (by omega) (by omega) (by omega) (by omega))
  have f13 : Fx p q s13.words (Tg.head 4 (-1)) 0 (p + 1) := by rw [w13]; exact f12.set8 _
  refine ⟨s10, s11, s12, s13, ⟨e10, k10⟩, ⟨e11, k11⟩, ⟨e12, k12⟩, ⟨e13, k13⟩, ⟨h.1, f10.1, f11.1, f12.1, f13.1⟩, ?_⟩
  rw [f13.2.1, Tg.page_head 4 _ (by omega) (by omega)]
  unfold lst
  rw [if_neg (by decide)]

theorem lostC (p q : Nat) (hp : p < 40) (hq : q < 40) (hn : p ≠ q) (s9 : St) (h : Fx p q s9.words (Tg.head 3 p) 0 (p + 1)) :
    ∃ s10 s11 s12 s13, (pushN 40 1 8 ⟨2, Tg.head 1 p, q⟩ s9 = (⟨0, Tg.head 1 p, q⟩, s10) ∧ s10.kind = 4) ∧ (pushN 40 1 8 ⟨0, Tg.head 1 p, q⟩ s10 = (⟨1, Tg.head 3 p, q⟩, s11) ∧ s11.kind = 1) ∧ (pushN 40 1 8 ⟨1, Tg.head 3 p, q⟩ s11 = (⟨2, Tg.head 3 p, q⟩, s12) ∧ s12.kind = 2) ∧ (pushN 40 1 8 ⟨2, Tg.head 3 p, q⟩ s12 = (⟨3, Tg.head 3 p, q⟩, s13) ∧ s13.kind = 3) ∧
      (s9.words.length = 324 ∧ s10.words.length = 324 ∧ s11.words.length = 324 ∧ s12.words.length = 324 ∧ s13.words.length = 324) ∧ lst s13.words 40 1 40 (Tg.page (s13.words.getD 8 0)) = [(q : Int), (p : Int)] := by
  obtain ⟨s10, e10, w10, k10⟩ := push_lost 40 1 8 (Tg.head 1 p) q s9 (by rw [h.2.1]; exact Tg.head_ne (by omega) (by omega) (by omega) (by omega) (by omega))
  have f10 : Fx p q s10.words (Tg.head 3 p) 0 (p + 1) := by rw [w10]; exact h
  obtain ⟨s11, e11, w11, k11⟩ := push_load 40 1 8 (Tg.head 1 p) q s10 _ f10.2.1
  have f11 : Fx p q s11.words (Tg.head 3 p) 0 (p + 1) := by rw [w11]; exact f10
  obtain ⟨s12, e12, w12, k12⟩ := push_put 40 1 8 (Tg.head 3 p) q s11 _ (at40 hq) (p + 1) (by rw [pg_head 3 hp]; omega)
  have f12 : Fx p q s12.words (Tg.head 3 p) 0 (p + 1) := by rw [w12]; exact f11.setq hq hn _
  obtain ⟨s13, e13, w13, k13⟩ := push_won 40 1 8 (Tg.head 3 p) q s12 f12.2.1 (Tg.head 4 q) (Tg.next_head 3 p q (by omega) (by omega) (by omega) (by omega) (by omega))
  have f13 : Fx p q s13.words (Tg.head 4 q) 0 (p + 1) := by rw [w13]; exact f12.set8 _
  refine ⟨s10, s11, s12, s13, ⟨e10, k10⟩, ⟨e11, k11⟩, ⟨e12, k12⟩, ⟨e13, k13⟩, ⟨h.1, f10.1, f11.1, f12.1, f13.1⟩, ?_⟩
  have n1 : nmd (p + 1) = p := by have := nmd_of (p : Int) (by omega) (by omega); rwa [show ((p : Int) + 1).toNat = p + 1 by omega] at this
  rw [f13.2.1, pg_head 4 hq]
  unfold lst
  rw [if_pos (ok40 hq), at40 hq, f13.2.2.2, n1]
  unfold lst
  rw [if_pos (ok40 hp), at40 hp, f13.2.2.1]
  unfold lst
  rw [if_neg (by decide)]
end Go.Proofs.Ytigokeocphbffaa
