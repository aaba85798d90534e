/- What lies in a stack, by its words. -/
import Derived.Test.YtigokeocphbffaaSA
namespace Go.Proofs.Ytigokeocphbffaa
open Go.RowKit

/-- Lists of numbers below n, each once, are no longer than n. -/
theorem pigeon : ∀ (n : Nat) (L : List Int), L.Nodup → (∀ x ∈ L, 0 ≤ x ∧ x < (n : Int)) → L.length ≤ n
  | 0, L, _, h => by
    cases L with
    | nil => simp
    | cons x r => have := h x (by simp); omega
  | n + 1, L, hn, h => by
    by_cases hm : (n : Int) ∈ L
    · have h1 := List.length_erase_of_mem hm
      have h2 := pigeon n (L.erase (n : Int)) (hn.erase _) (fun x hx => by
        have h3 := (hn.mem_erase_iff).1 hx
        have h4 := h x h3.2
        have : x ≠ (n : Int) := h3.1
        omega)
      have h5 : 0 < L.length := List.length_pos_of_mem hm
      omega
    · have := pigeon n L hn (fun x hx => by
        have h4 := h x hx
        have : x ≠ (n : Int) := fun e => hm (e ▸ hx)
        omega)
      omega

/-- Where the word lies that names what lies below page p. -/
def knx (T p : Int) : Nat := (70 + 14 * T + 5 * p).toNat
def top : List Int → Int
  | [] => -1
  | p :: _ => p
def Chain (ws : List Nat) (P T : Int) : List Int → Prop
  | [] => True
  | p :: r => (0 ≤ p ∧ p < P) ∧ ws.getD (knx T p) 0 = (top r + 1).toNat ∧ Chain ws P T r

theorem Chain.bd {ws : List Nat} {P T : Int} : ∀ {L : List Int}, Chain ws P T L → ∀ p ∈ L, 0 ≤ p ∧ p < P
  | [], _, p, hp => by cases hp
  | a :: r, h, p, hp => by
    rcases List.mem_cons.1 hp with rfl | hp
    · exact h.1
    · exact Chain.bd h.2.2 p hp
theorem Chain.top {ws : List Nat} {P T : Int} {L : List Int} (h : Chain ws P T L) (hP : 0 ≤ P) : -1 ≤ Go.Proofs.Ytigokeocphbffaa.top L ∧ Go.Proofs.Ytigokeocphbffaa.top L < P := by
  cases L with
  | nil => exact ⟨by show (-1 : Int) ≤ -1; omega, by show (-1 : Int) < P; omega⟩
  | cons a r => exact ⟨by have := h.1.1; show -1 ≤ a; omega, h.1.2⟩
theorem Chain.set {ws : List Nat} {P T : Int} {j v : Nat} : ∀ {L : List Int}, Chain ws P T L → (∀ p ∈ L, j ≠ knx T p) → Chain (ws.set j v) P T L
  | [], _, _ => trivial
  | a :: r, h, hj => ⟨h.1, (getD_set_ne _ _ _ _ (hj a (by simp))).trans h.2.1, Chain.set h.2.2 (fun p hp => hj p (by simp [hp]))⟩
theorem knx_at {P T p : Int} (hm : Lay.may P T = true) (h1 : 0 ≤ p) (h2 : p < P) : (Lay.page P T 11 p).1.toNat = knx T p := by rw [next_in hm h1 h2]; rfl
theorem knx_in {P T p : Int} (hm : Lay.may P T = true) (h1 : 0 ≤ p) (h2 : p < P) : 84 ≤ knx T p ∧ knx T p < (Lay.words P T).toNat := by
  obtain ⟨m1, m2, m3, m4⟩ := Lay.may_iff.1 hm
  have := Lay.maps_bd m1 m2
  rw [Lay.words_in hm]
  unfold knx Lay.total
  omega
theorem knx_ne {P T p y : Int} (hm : Lay.may P T = true) (_h1 : 0 ≤ p) (_h2 : 0 ≤ y) (h : p ≠ y) : knx T p ≠ knx T y := by
  obtain ⟨m1, m2, m3, m4⟩ := Lay.may_iff.1 hm
  unfold knx
  omega
theorem lst_chain {ws : List Nat} {P T : Int} (hm : Lay.may P T = true) : ∀ (n : Nat) (L : List Int), Chain ws P T L → L.length ≤ n → lst ws P T n (Go.Proofs.Ytigokeocphbffaa.top L) = L
  | 0, L, _, hl => by cases L with
    | nil => rfl
    | cons a r => simp at hl
  | n + 1, [], _, _ => by
    unfold lst
    rw [next_out (.inl (by show (-1 : Int) < 0; omega)), if_neg (by simp)]
  | n + 1, p :: r, h, hl => by
    obtain ⟨m1, m2, m3, m4⟩ := Lay.may_iff.1 hm
    unfold lst
    show (if (Lay.page P T 11 p).2 = true then p :: lst ws P T n (nmd (ws.getD (Lay.page P T 11 p).1.toNat 0)) else []) = p :: r
    rw [if_pos (by rw [next_in hm h.1.1 h.1.2]), knx_at hm h.1.1 h.1.2, h.2.1]
    have hb := h.2.2.top (by omega)
    rw [nmd_of _ hb.1 (by omega), lst_chain hm n r h.2.2 (by simpa using hl)]

/-- The stack at the head i: its tag t, what lies there. -/
structure Stk (P T : Int) (i : Nat) (ws : List Nat) (t : Nat) (L : List Int) : Prop where
  may : Lay.may P T = true
  hi : i < 68
  len : ws.length = (Lay.words P T).toNat
  head : ws.getD i 0 = Tg.head t (Go.Proofs.Ytigokeocphbffaa.top L)
  chain : Chain ws P T L
  once : L.Nodup
theorem Stk.tops {P T : Int} {i : Nat} {ws : List Nat} {t : Nat} {L : List Int} (h : Stk P T i ws t L) : -1 ≤ top L ∧ top L < P ∧ P ≤ 4096 := by
  obtain ⟨m1, m2, m3, m4⟩ := Lay.may_iff.1 h.may
  have := h.chain.top (by omega)
  omega
theorem Stk.page {P T : Int} {i : Nat} {ws : List Nat} {t : Nat} {L : List Int} (h : Stk P T i ws t L) : Tg.page (ws.getD i 0) = top L := by
  have := h.tops
  rw [h.head, Tg.page_head t _ (by omega) (by omega)]
theorem Stk.list {P T : Int} {i : Nat} {ws : List Nat} {t : Nat} {L : List Int} (h : Stk P T i ws t L) (n : Nat) (hn : P = (n : Int)) : lst ws P T n (Tg.page (ws.getD i 0)) = L := by
  rw [h.page]
  exact lst_chain h.may n L h.chain (pigeon n L h.once (fun x hx => by have := h.chain.bd x hx; omega))
theorem Stk.push {P T : Int} {i : Nat} {ws : List Nat} {t : Nat} {L : List Int} (h : Stk P T i ws t L) {y : Int} (h1 : 0 ≤ y) (h2 : y < P) (hy : y ∉ L) (ht : t + 1 < 4294967296) : Stk P T i (alone P T i y ws) (t + 1) (y :: L) := by
  have hT := h.tops
  have hk := knx_in h.may h1 h2
  have hi := h.hi
  have hw : 90 ≤ (Lay.words P T).toNat := by have := Lay.words_bd h.may; omega
  have hl := h.len
  unfold alone
  rw [h.page, knx_at h.may h1 h2, h.head, Tg.next_head t _ y ht hT.1 (by omega) (by omega) (by omega)]
  refine ⟨h.may, h.hi, by rw [List.length_set, List.length_set]; exact h.len, getD_set_eq _ _ _ (by rw [List.length_set]; omega), ⟨⟨h1, h2⟩, ?_, ?_⟩, List.nodup_cons.2 ⟨hy, h.once⟩⟩
  · rw [getD_set_ne _ _ _ _ (by omega), getD_set_eq _ _ _ (by omega)]
  · refine Chain.set (Chain.set h.chain (fun p hp => ?_)) (fun p hp => ?_)
    · have := h.chain.bd p hp
      exact knx_ne h.may h1 this.1 (fun e => hy (e ▸ hp))
    · have := h.chain.bd p hp
      have := knx_in h.may this.1 this.2
      omega

/-- A pop alone, of a stack where p lies on top. -/
theorem pop_three {P T : Int} {i : Nat} {s : St} {t : Nat} {p : Int} {r : List Int} (h : Stk P T i s.words t (p :: r)) (ht : t + 1 < 4294967296) :
    ∃ s1 s2 s3, popN P T i ⟨0, 0, 0, 0⟩ s = (⟨1, Tg.head t p, p, 0⟩, s1) ∧ popN P T i ⟨1, Tg.head t p, p, 0⟩ s1 = (⟨2, Tg.head t p, p, top r⟩, s2) ∧ popN P T i ⟨2, Tg.head t p, p, top r⟩ s2 = (⟨3, Tg.head t p, p, top r⟩, s3) ∧
      s1.words.length = (Lay.words P T).toNat ∧ s2.words.length = (Lay.words P T).toNat ∧ Stk P T i s3.words (t + 1) r := by
  have hT := h.tops
  have hp := h.chain.1
  have hr := h.chain.2.2.top (P := P) (by omega)
  have hw : 90 ≤ (Lay.words P T).toNat := by have := Lay.words_bd h.may; omega
  have hl := h.len
  have hi := h.hi
  obtain ⟨s1, e1, w1, _⟩ := pop_load P T i 0 0 0 s (Tg.head t p) h.head p (by have := h.page; rw [h.head] at this; exact this) (by rw [next_in h.may hp.1 hp.2])
  obtain ⟨s2, e2, w2, _⟩ := pop_link P T i 0 (Tg.head t p) p s1 _ (knx_at h.may hp.1 hp.2) (top r + 1).toNat (by rw [w1]; exact h.chain.2.1)
  rw [nmd_of _ hr.1 (by omega)] at e2
  obtain ⟨s3, e3, w3, _⟩ := pop_won P T i (top r) (Tg.head t p) p s2 (by rw [w2, w1]; exact h.head) (Tg.head (t + 1) (top r)) (Tg.next_head t p _ ht (by omega) (by omega) hr.1 (by omega))
  refine ⟨s1, s2, s3, e1, e2, e3, by rw [w1]; exact h.len, by rw [w2, w1]; exact h.len, ?_⟩
  rw [w3, w2, w1]
  exact ⟨h.may, h.hi, by rw [List.length_set]; exact h.len, getD_set_eq _ _ _ (by omega), Chain.set h.chain.2.2 (fun q hq => by
    have := h.chain.2.2.bd q hq
    have := knx_in h.may this.1 this.2
    omega), (List.nodup_cons.1 h.once).2⟩
theorem pop_zero {P T : Int} {i : Nat} {s : St} {t : Nat} (h : Stk P T i s.words t []) :
    ∃ s1, popN P T i ⟨0, 0, 0, 0⟩ s = (⟨3, Tg.head t (-1), -1, 0⟩, s1) ∧ s1.words = s.words := by
  obtain ⟨s1, e1, w1, _⟩ := pop_none P T i 0 0 0 s (Tg.head t (-1)) h.head (-1) (by have := h.page; rw [h.head] at this; exact this) (by rw [next_out (.inl (by omega))])
  exact ⟨s1, e1, w1⟩
end Go.Proofs.Ytigokeocphbffaa
