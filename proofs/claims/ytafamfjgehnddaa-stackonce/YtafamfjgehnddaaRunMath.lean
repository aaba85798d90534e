/- Runs of pages, as keys of a rising row: what taking and putting make of them. (Numbers alone.) -/
import Derived.Test.YtafamfjgehnddaaTreList
namespace Go.Proofs.Ytafamfjgehnddaa
open Go.RowKit

abbrev RL := List (It Unit)
def rA (k : Int) : Int := k % 8192
def rN (k : Int) : Int := k / 8192
def kOf (a n : Int) : Int := n * 8192 + a
theorem rA_k {a n : Int} (h0 : 0 ≤ a) (h1 : a < 8192) : rA (kOf a n) = a := by unfold rA kOf; omega
theorem rN_k {a n : Int} (h0 : 0 ≤ a) (h1 : a < 8192) : rN (kOf a n) = n := by unfold rN kOf; omega
theorem k_r (k : Int) : kOf (rA k) (rN k) = k := by unfold rA rN kOf; omega
theorem rA_bd (k : Int) : 0 ≤ rA k ∧ rA k < 8192 := by unfold rA; omega
theorem r_inj {k j : Int} (h : rA k = rA j) (g : rN k = rN j) : k = j := by rw [← k_r k, ← k_r j, h, g]

/-- Runs that lie in pg pages, with something between. -/
structure Good (pg : Int) (L : RL) : Prop where
  ris : Rising L
  ran : ∀ i ∈ L, 1 ≤ rN i.1 ∧ rA i.1 + rN i.1 ≤ pg
  sep : ∀ i ∈ L, ∀ j ∈ L, i.1 ≠ j.1 → rA i.1 + rN i.1 < rA j.1 ∨ rA j.1 + rN j.1 < rA i.1

/-- Is page p free? -/
def fr (L : RL) (p : Int) : Prop := ∃ i ∈ L, rA i.1 ≤ p ∧ p < rA i.1 + rN i.1

theorem Good.one {pg : Int} {d : Nat} (h : 1 ≤ pg) : Good pg [(kOf 0 pg, d, ())] := by
  refine ⟨List.pairwise_singleton _ _, fun i hi => ?_, fun i hi j hj hn => ?_⟩
  · rw [List.mem_singleton] at hi; subst hi
    have := rA_k (a := 0) (n := pg) (by omega) (by omega); have := rN_k (a := 0) (n := pg) (by omega) (by omega)
    simp only; omega
  · rw [List.mem_singleton] at hi hj; subst hi; subst hj; exact absurd rfl hn

theorem Good.del {pg : Int} {L : RL} (h : Good pg L) (k : Int) : Good pg (delL k L) :=
  ⟨delL_rising h.ris, fun i hi => h.ran i (delL_sub hi), fun i hi j hj => h.sep i (delL_sub hi) j (delL_sub hj)⟩

/-- Nothing of L meets the pages from a to a + n, or lies beside them. -/
def Clear (a n : Int) (L : RL) : Prop := ∀ i ∈ L, rA i.1 + rN i.1 < a ∨ a + n < rA i.1

theorem Clear.no {a n : Int} {L : RL} (h : Clear a n L) (h0 : 0 ≤ a) (h1 : a < 8192) (hn : 1 ≤ n) : getL (kOf a n) L = none :=
  getL_none_of fun i hi e => by
    have := h i hi
    rw [e, rA_k h0 h1, rN_k h0 h1] at this
    omega

theorem Good.ins {pg : Int} {L : RL} (h : Good pg L) {a n : Int} {d : Nat} (h0 : 0 ≤ a) (hn : 1 ≤ n) (hp : a + n ≤ pg) (hq : pg ≤ 4096) (hc : Clear a n L) : Good pg (insL (kOf a n) d () L) := by
  have h1 : a < 8192 := by omega
  have no := getL_none (hc.no h0 h1 hn)
  have ea := rA_k (a := a) (n := n) h0 h1
  have en := rN_k (a := a) (n := n) h0 h1
  refine ⟨insL_rising h.ris no, fun i hi => ?_, fun i hi j hj hij => ?_⟩
  · rcases insL_mem.1 hi with rfl | hi
    · simp only; omega
    · exact h.ran i hi
  · rcases insL_mem.1 hi with rfl | hi <;> rcases insL_mem.1 hj with rfl | hj
    · exact absurd rfl hij
    · have := hc j hj; simp only; omega
    · have := hc i hi; simp only; omega
    · exact h.sep i hi j hj hij
theorem fr_ins {L : RL} {a n : Int} {d : Nat} (h0 : 0 ≤ a) (h1 : a < 8192) (p : Int) : fr (insL (kOf a n) d () L) p ↔ (a ≤ p ∧ p < a + n) ∨ fr L p := by
  unfold fr
  constructor
  · rintro ⟨i, hi, h⟩
    rcases insL_mem.1 hi with rfl | hi
    · rw [rA_k h0 h1, rN_k h0 h1] at h; exact .inl h
    · exact .inr ⟨i, hi, h⟩
  · rintro (h | ⟨i, hi, h⟩)
    · exact ⟨_, insL_mem.2 (.inl rfl), by rw [rA_k h0 h1, rN_k h0 h1]; exact h⟩
    · exact ⟨i, insL_mem.2 (.inr hi), h⟩
theorem fr_del {pg : Int} {L : RL} (h : Good pg L) {i : It Unit} (hi : i ∈ L) (p : Int) : fr (delL i.1 L) p ↔ fr L p ∧ ¬ (rA i.1 ≤ p ∧ p < rA i.1 + rN i.1) := by
  unfold fr
  constructor
  · rintro ⟨j, hj, g⟩
    obtain ⟨hj, hn⟩ := delL_mem.1 hj
    refine ⟨⟨j, hj, g⟩, fun q => ?_⟩
    have := h.sep j hj i hi hn
    omega
  · rintro ⟨⟨j, hj, g⟩, q⟩
    exact ⟨j, delL_mem.2 ⟨hj, fun e => q (by rw [← e]; exact g)⟩, g⟩

/-- The run that n pages are taken from. -/
def fitL (n : Int) (L : RL) : Option (It Unit) := ceilL (kOf 0 n) L
theorem fit_some {L : RL} (hr : Rising L) {n : Int} {i : It Unit} (h : fitL n L = some i) : i ∈ L ∧ n ≤ rN i.1 ∧ ∀ j ∈ L, n ≤ rN j.1 → rN i.1 < rN j.1 ∨ (rN i.1 = rN j.1 ∧ rA i.1 ≤ rA j.1) := by
  obtain ⟨h1, h2, h3⟩ := ceilL_some hr h
  refine ⟨h1, by unfold kOf at h2; unfold rN; omega, fun j hj hn => ?_⟩
  have := h3 j hj (by unfold kOf; unfold rN at hn; omega)
  unfold rN rA; omega
theorem fit_none {L : RL} {n : Int} (h : fitL n L = none) : ∀ j ∈ L, rN j.1 < n := fun j hj => by
  have := ceilL_none h j hj
  unfold kOf at this; unfold rN; omega
/-- What is left behind a take of n pages from i. -/
def cutL (i : It Unit) (n : Int) (d : Nat) (L : RL) : RL := if n < rN i.1 then insL (kOf (rA i.1 + n) (rN i.1 - n)) d () (delL i.1 L) else delL i.1 L
theorem cut_clear {pg : Int} {L : RL} (h : Good pg L) {i : It Unit} (hi : i ∈ L) {n : Int} (hn : 1 ≤ n) : Clear (rA i.1 + n) (rN i.1 - n) (delL i.1 L) := fun j hj => by
  obtain ⟨hj, hne⟩ := delL_mem.1 hj
  have := h.sep j hj i hi hne
  omega
theorem Good.cut {pg : Int} {L : RL} (h : Good pg L) (hq : pg ≤ 4096) {i : It Unit} (hi : i ∈ L) {n : Int} (hn : 1 ≤ n) (d : Nat) : Good pg (cutL i n d L) := by
  have hr := h.ran i hi
  have ha := rA_bd i.1
  unfold cutL
  split
  · next hl => exact (h.del i.1).ins (by omega) (by omega) (by omega) hq (cut_clear h hi hn)
  · exact h.del i.1
theorem fr_cut {pg : Int} {L : RL} (h : Good pg L) (hq : pg ≤ 4096) {i : It Unit} (hi : i ∈ L) {n : Int} (hn : 1 ≤ n) (hl : n ≤ rN i.1) (d : Nat) (p : Int) : fr (cutL i n d L) p ↔ fr L p ∧ ¬ (rA i.1 ≤ p ∧ p < rA i.1 + n) := by
  have hr := h.ran i hi
  have ha := rA_bd i.1
  have hin : (rA i.1 ≤ p ∧ p < rA i.1 + rN i.1) → fr L p := fun g => ⟨i, hi, g⟩
  unfold cutL
  split
  · next hlt =>
    rw [fr_ins (by omega) (by omega), fr_del h hi]
    constructor
    · rintro (g | ⟨g1, g2⟩)
      · exact ⟨hin (by omega), by omega⟩
      · exact ⟨g1, by omega⟩
    · rintro ⟨g1, g2⟩
      by_cases g : rA i.1 ≤ p ∧ p < rA i.1 + rN i.1
      · exact .inl (by omega)
      · exact .inr ⟨g1, g⟩
  · rw [fr_del h hi, show rN i.1 = n by omega]

/-- Does a run meet the pages from a to a + n? Does it end, or begin, beside them? -/
def hits (a n k : Int) : Bool := decide (rA k < a + n ∧ a < rA k + rN k)
def besd (a n k : Int) : Bool := decide (rA k = a + n ∨ a = rA k + rN k)
theorem hits_iff {a n k : Int} : hits a n k = true ↔ rA k < a + n ∧ a < rA k + rN k := by simp [hits]
theorem besd_iff {a n k : Int} : besd a n k = true ↔ rA k = a + n ∨ a = rA k + rN k := by simp [besd]
def joinR (c : Int × Int) (k : Int) : Int × Int := (min c.1 (rA k), c.2 + rN k)

/-- What stands while runs beside are joined, one behind the other. -/
structure Joins (pg a n : Int) (L0 : RL) (c : Int × Int) (L : RL) : Prop where
  good : Good pg L
  lo : 0 ≤ c.1
  pos : 1 ≤ c.2
  hi : c.1 + c.2 ≤ pg
  nohit : ∀ i ∈ L, hits c.1 c.2 i.1 = false
  bes : ∀ i ∈ L, besd c.1 c.2 i.1 = besd a n i.1
  free : ∀ p, (fr L p ∨ (c.1 ≤ p ∧ p < c.1 + c.2)) ↔ (fr L0 p ∨ (a ≤ p ∧ p < a + n))
  tot : c.2 + (L.map fun i => rN i.1).sum = n + (L0.map fun i => rN i.1).sum

theorem sum_del {L : RL} (hr : Rising L) {i : It Unit} (hi : i ∈ L) : ((delL i.1 L).map fun i => rN i.1).sum + rN i.1 = (L.map fun i => rN i.1).sum := by
  induction L with
  | nil => cases hi
  | cons x L ih =>
    obtain ⟨h1, h2⟩ := List.pairwise_cons.1 hr
    rcases List.mem_cons.1 hi with rfl | hi'
    · have e := delL_none (L := L) (key := i.1) (fun j hj => by have := h1 j hj; omega)
      unfold delL at e ⊢
      simp [e]; omega
    · have hx : x.1 ≠ i.1 := by have := h1 i hi'; omega
      have e := ih h2 hi'
      unfold delL at e ⊢
      simp [hx]; omega
theorem sum_ins {L : RL} {k : Int} {d : Nat} : ((insL k d () L).map fun i => rN i.1).sum = rN k + (L.map fun i => rN i.1).sum := by
  have e : ∀ L : RL, ((L.filter fun i => decide (i.1 < k)).map fun i => rN i.1).sum + ((L.filter fun i => !decide (i.1 < k)).map fun i => rN i.1).sum = (L.map fun i => rN i.1).sum := by
    intro L
    induction L with
    | nil => rfl
    | cons x L ih =>
      by_cases h : x.1 < k
      · rw [List.filter_cons_of_pos (by simpa using h), List.filter_cons_of_neg (by simpa using h)]
        simp only [List.map_cons, List.sum_cons]; omega
      · rw [List.filter_cons_of_neg (by simpa using h), List.filter_cons_of_pos (by simpa using h)]
        simp only [List.map_cons, List.sum_cons]; omega
  unfold insL
  rw [List.map_append, List.map_cons, List.sum_append, List.sum_cons, ← e L]
  exact Int.add_left_comm _ _ _

theorem Joins.step {pg a n : Int} {L0 L : RL} {c : Int × Int} (h : Joins pg a n L0 c L) {i : It Unit} (hi : i ∈ L) (hb : besd a n i.1 = true) : Joins pg a n L0 (joinR c i.1) (delL i.1 L) := by
  have hr := h.good.ran i hi
  have ha := rA_bd i.1
  have hb' := h.bes i hi
  rw [hb, besd_iff] at hb'
  have g1 := h.lo; have g2 := h.pos; have g3 := h.hi
  have hm : (joinR c i.1).1 = min c.1 (rA i.1) := rfl
  have hm2 : (joinR c i.1).2 = c.2 + rN i.1 := rfl
  refine ⟨h.good.del _, by omega, by omega, by omega, fun j hj => ?_, fun j hj => ?_, fun p => ?_, ?_⟩
  · obtain ⟨hj, hne⟩ := delL_mem.1 hj
    have hs := h.good.sep j hj i hi hne
    have hn := h.nohit j hj
    have hrj := h.good.ran j hj
    rw [← Bool.not_eq_true, hits_iff] at hn ⊢
    omega
  · obtain ⟨hj, hne⟩ := delL_mem.1 hj
    have hs := h.good.sep j hj i hi hne
    have hn := h.nohit j hj
    have hrj := h.good.ran j hj
    rw [← h.bes j hj, Bool.eq_iff_iff, besd_iff, besd_iff]
    rw [← Bool.not_eq_true, hits_iff] at hn
    omega
  · rw [← h.free p, fr_del h.good hi]
    have hin : (rA i.1 ≤ p ∧ p < rA i.1 + rN i.1) → fr L p := fun g => ⟨i, hi, g⟩
    constructor
    · rintro (⟨g, _⟩ | g)
      · exact .inl g
      · by_cases q : rA i.1 ≤ p ∧ p < rA i.1 + rN i.1
        · exact .inl (hin q)
        · exact .inr (by omega)
    · rintro (g | g)
      · by_cases q : rA i.1 ≤ p ∧ p < rA i.1 + rN i.1
        · exact .inr (by omega)
        · exact .inl ⟨g, q⟩
      · exact .inr (by omega)
  · have := sum_del h.good.ris hi
    have := h.tot
    omega

theorem Joins.start {pg a n : Int} {L : RL} (h : Good pg L) (h0 : 0 ≤ a) (hn : 1 ≤ n) (hp : a + n ≤ pg) (hh : ∀ i ∈ L, hits a n i.1 = false) : Joins pg a n L (a, n) L := ⟨h, h0, hn, hp, hh, fun _ _ => rfl, fun _ => Iff.rfl, rfl⟩

/-- The keys of the runs beside, in L's order. -/
def besK (a n : Int) (L : RL) : List Int := (L.map (·.1)).filter (besd a n)
def wholeL (a n : Int) (ks : List Int) : Int × Int := ks.foldl joinR (a, n)
def delsL (ks : List Int) (L : RL) : RL := ks.foldl (fun M k => delL k M) L
theorem dels_mem {ks : List Int} {L : RL} {i : It Unit} : i ∈ delsL ks L ↔ i ∈ L ∧ i.1 ∉ ks := by
  unfold delsL
  induction ks generalizing L with
  | nil => simp
  | cons k ks ih => rw [List.foldl_cons, ih, delL_mem, List.mem_cons, not_or, and_assoc]
theorem dels_rising {ks : List Int} {L : RL} (h : Rising L) : Rising (delsL ks L) := by
  unfold delsL
  induction ks generalizing L with
  | nil => exact h
  | cons k ks ih => exact ih (delL_rising h)
theorem joins_all {pg a n : Int} {L0 : RL} : ∀ (ks : List Int) (c : Int × Int) (L : RL), ks.Nodup → (∀ k ∈ ks, besd a n k = true ∧ ∃ i ∈ L, i.1 = k) → Joins pg a n L0 c L → Joins pg a n L0 (ks.foldl joinR c) (delsL ks L)
  | [], _, _, _, _, h => h
  | k :: ks, c, L, hd, hk, h => by
    obtain ⟨hb, i, hi, rfl⟩ := hk k (by simp)
    obtain ⟨hd1, hd2⟩ := List.nodup_cons.1 hd
    refine joins_all ks (joinR c i.1) (delL i.1 L) hd2 (fun k' hk' => ?_) (h.step hi hb)
    obtain ⟨b', j, hj, rfl⟩ := hk k' (by simp [hk'])
    exact ⟨b', j, delL_mem.2 ⟨hj, fun e => hd1 (e ▸ hk')⟩, rfl⟩
theorem keys_nodup {L : RL} (h : Rising L) : (L.map (·.1)).Nodup := by
  rw [List.Nodup, List.pairwise_map]
  exact h.imp (fun h => by omega)
theorem besK_mem {a n : Int} {L : RL} {k : Int} : k ∈ besK a n L ↔ besd a n k = true ∧ ∃ i ∈ L, i.1 = k := by
  simp [besK]; constructor <;> (rintro ⟨h1, h2⟩; exact ⟨h2, h1⟩)
/-- What is left behind a put. -/
def laidL (a n : Int) (d : Nat) (L : RL) : RL := insL (kOf (wholeL a n (besK a n L)).1 (wholeL a n (besK a n L)).2) d () (delsL (besK a n L) L)
theorem joins_put {pg a n : Int} {L : RL} (h : Good pg L) (h0 : 0 ≤ a) (hn : 1 ≤ n) (hp : a + n ≤ pg) (hh : ∀ i ∈ L, hits a n i.1 = false) :
    Joins pg a n L (wholeL a n (besK a n L)) (delsL (besK a n L) L) ∧ Clear (wholeL a n (besK a n L)).1 (wholeL a n (besK a n L)).2 (delsL (besK a n L) L) := by
  have hj := joins_all (besK a n L) (a, n) L ((keys_nodup h.ris).filter _) (fun k hk => besK_mem.1 hk) (Joins.start h h0 hn hp hh)
  refine ⟨hj, fun i hi => ?_⟩
  obtain ⟨h1, h2⟩ := dels_mem.1 hi
  have b0 : besd a n i.1 = false := by
    rw [← Bool.not_eq_true]; exact fun e => h2 (besK_mem.2 ⟨e, i, h1, rfl⟩)
  have b1 := hj.bes i hi
  have b2 := hj.nohit i hi
  have b3 := h.ran i h1
  unfold wholeL at *
  rw [b0, ← Bool.not_eq_true, besd_iff] at b1
  rw [← Bool.not_eq_true, hits_iff] at b2
  omega
theorem Good.put {pg a n : Int} {L : RL} (h : Good pg L) (hq : pg ≤ 4096) (h0 : 0 ≤ a) (hn : 1 ≤ n) (hp : a + n ≤ pg) (hh : ∀ i ∈ L, hits a n i.1 = false) (d : Nat) : Good pg (laidL a n d L) := by
  obtain ⟨hj, hc⟩ := joins_put h h0 hn hp hh
  exact hj.good.ins hj.lo hj.pos hj.hi hq hc
theorem fr_put {pg a n : Int} {L : RL} (h : Good pg L) (hq : pg ≤ 4096) (h0 : 0 ≤ a) (hn : 1 ≤ n) (hp : a + n ≤ pg) (hh : ∀ i ∈ L, hits a n i.1 = false) (d : Nat) (p : Int) : fr (laidL a n d L) p ↔ fr L p ∨ (a ≤ p ∧ p < a + n) := by
  obtain ⟨hj, hc⟩ := joins_put h h0 hn hp hh
  have := hj.hi; have := hj.pos
  unfold laidL
  rw [fr_ins hj.lo (by omega), ← hj.free p, or_comm]
theorem sum_put {pg a n : Int} {L : RL} (h : Good pg L) (hq : pg ≤ 4096) (h0 : 0 ≤ a) (hn : 1 ≤ n) (hp : a + n ≤ pg) (hh : ∀ i ∈ L, hits a n i.1 = false) (d : Nat) : ((laidL a n d L).map fun i => rN i.1).sum = (L.map fun i => rN i.1).sum + n := by
  obtain ⟨hj, hc⟩ := joins_put h h0 hn hp hh
  have := hj.hi; have := hj.pos; have := hj.tot
  unfold laidL
  rw [sum_ins, rN_k hj.lo (by omega)]
  omega
theorem hit_fr {pg a n : Int} {L : RL} (h : Good pg L) (hn : 1 ≤ n) : (∃ i ∈ L, hits a n i.1 = true) ↔ ∃ p, a ≤ p ∧ p < a + n ∧ fr L p := by
  constructor
  · rintro ⟨i, hi, g⟩
    have hr := h.ran i hi
    rw [hits_iff] at g
    exact ⟨max a (rA i.1), by omega, by omega, i, hi, by omega, by omega⟩
  · rintro ⟨p, g1, g2, i, hi, g3, g4⟩
    exact ⟨i, hi, hits_iff.2 ⟨by omega, by omega⟩⟩

/-- Two rows that free the same pages have the same keys. -/
theorem keys_of_fr {pg : Int} {L M : RL} (hL : Good pg L) (hM : Good pg M) (h : ∀ p, fr L p ↔ fr M p) : ∀ i ∈ L, ∃ j ∈ M, j.1 = i.1 := by
  intro i hi
  have hr := hL.ran i hi
  obtain ⟨j, hj, g1, g2⟩ := (h (rA i.1)).1 ⟨i, hi, by omega, by omega⟩
  have hrj := hM.ran j hj
  have front : rA j.1 = rA i.1 := by
    by_cases e : rA j.1 = rA i.1
    · exact e
    · obtain ⟨i2, hi2, q1, q2⟩ := (h (rA i.1 - 1)).2 ⟨j, hj, by omega, by omega⟩
      by_cases e2 : i2.1 = i.1
      · rw [e2] at q1; omega
      · have := hL.sep i2 hi2 i hi e2; have := hL.ran i2 hi2; omega
  have tail1 : rN i.1 ≤ rN j.1 := by
    rcases Int.lt_or_le (rN j.1) (rN i.1) with q | q
    · obtain ⟨j2, hj2, q1, q2⟩ := (h (rA i.1 + rN j.1)).1 ⟨i, hi, by omega, by omega⟩
      by_cases e2 : j2.1 = j.1
      · rw [e2] at q1 q2; omega
      · have := hM.sep j2 hj2 j hj e2; have := hM.ran j2 hj2; omega
    · exact q
  have tail2 : rN j.1 ≤ rN i.1 := by
    rcases Int.lt_or_le (rN i.1) (rN j.1) with q | q
    · obtain ⟨i2, hi2, q1, q2⟩ := (h (rA i.1 + rN i.1)).2 ⟨j, hj, by omega, by omega⟩
      by_cases e2 : i2.1 = i.1
      · rw [e2] at q1 q2; omega
      · have := hL.sep i2 hi2 i hi e2; have := hL.ran i2 hi2; omega
    · exact q
  exact ⟨j, hj, r_inj front (by omega)⟩

/-- Rising rows of numbers with the same members are one. -/
theorem up_ext {β : Type} {f : β → Int} {l m : List β} (hl : l.Pairwise fun a b => f a < f b) (hm : m.Pairwise fun a b => f a < f b) (h : ∀ x, x ∈ l ↔ x ∈ m) : l = m := by
  induction l generalizing m with
  | nil =>
    cases m with
    | nil => rfl
    | cons b m => have := (h b).2 (by simp); simp at this
  | cons a l ih =>
    cases m with
    | nil => have := (h a).1 (by simp); simp at this
    | cons b m =>
      obtain ⟨hl1, hl2⟩ := List.pairwise_cons.1 hl
      obtain ⟨hm1, hm2⟩ := List.pairwise_cons.1 hm
      have hab : a = b := by
        rcases List.mem_cons.1 ((h a).1 (by simp)) with e | e
        · exact e
        · rcases List.mem_cons.1 ((h b).2 (by simp)) with e2 | e2
          · exact e2.symm
          · have := hm1 a e; have := hl1 b e2; omega
      subst hab
      congr 1
      refine ih hl2 hm2 (fun x => ⟨fun hx => ?_, fun hx => ?_⟩)
      · rcases List.mem_cons.1 ((h x).1 (by simp [hx])) with e | e
        · subst e; have := hl1 x hx; omega
        · exact e
      · rcases List.mem_cons.1 ((h x).2 (by simp [hx])) with e | e
        · subst e; have := hm1 x hx; omega
        · exact e
theorem keys_eq {pg : Int} {L M : RL} (hL : Good pg L) (hM : Good pg M) (h : ∀ p, fr L p ↔ fr M p) : L.map (·.1) = M.map (·.1) := by
  refine up_ext (f := fun k => k) (List.pairwise_map.2 hL.ris) (List.pairwise_map.2 hM.ris) (fun k => ?_)
  simp only [List.mem_map]
  exact ⟨fun ⟨i, hi, e⟩ => by obtain ⟨j, hj, e2⟩ := keys_of_fr hL hM h i hi; exact ⟨j, hj, e2.trans e⟩, fun ⟨i, hi, e⟩ => by obtain ⟨j, hj, e2⟩ := keys_of_fr hM hL (fun p => (h p).symm) i hi; exact ⟨j, hj, e2.trans e⟩⟩

/-- The runs, rising by their pages. -/
def rOf (k : Int) : Int × Int := (rA k, rN k)
def runsOf (L : RL) : List (Int × Int) := ((L.map (·.1)).map rOf).mergeSort (fun x y => decide (x.1 ≤ y.1))
theorem runsOf_perm (L : RL) : (runsOf L).Perm ((L.map (·.1)).map rOf) := List.mergeSort_perm _ _
theorem runsOf_mem {L : RL} {x : Int × Int} : x ∈ runsOf L ↔ ∃ i ∈ L, x = (rA i.1, rN i.1) := by
  rw [(runsOf_perm L).mem_iff]; simp [rOf, eq_comm]
theorem runsOf_length (L : RL) : (runsOf L).length = L.length := by rw [(runsOf_perm L).length_eq]; simp
theorem up_of_le {l : List (Int × Int)} (h : l.Pairwise fun x y => x.1 ≤ y.1) (hd : l.Pairwise fun x y => x.1 ≠ y.1) : l.Pairwise fun x y => x.1 < y.1 := by
  induction l with
  | nil => exact .nil
  | cons a l ih =>
    obtain ⟨h1, h2⟩ := List.pairwise_cons.1 h
    obtain ⟨d1, d2⟩ := List.pairwise_cons.1 hd
    exact List.pairwise_cons.2 ⟨fun x hx => by have := h1 x hx; have := d1 x hx; omega, ih h2 d2⟩
theorem rows_apart {pg : Int} {L : RL} (h : Good pg L) {l : List (Int × Int)} (hp : l.Perm ((L.map (·.1)).map rOf)) : l.Pairwise fun x y => x.1 ≠ y.1 := by
  refine hp.symm.pairwise (R := fun x y : Int × Int => x.1 ≠ y.1) ?_ (fun h => h.symm)
  rw [List.pairwise_map, List.pairwise_map]
  refine List.Pairwise.imp_of_mem (fun {i j} hi hj hlt => ?_) h.ris
  have := h.sep i hi j hj (by omega)
  have := h.ran i hi; have := h.ran j hj
  simp only [rOf]; omega
theorem runsOf_up {pg : Int} {L : RL} (h : Good pg L) : (runsOf L).Pairwise fun x y => x.1 < y.1 := by
  refine up_of_le ?_ (rows_apart h (runsOf_perm L))
  have := List.pairwise_mergeSort (le := fun x y : Int × Int => decide (x.1 ≤ y.1)) (fun a b c h1 h2 => by simp at *; omega) (fun a b => by simp; omega) ((L.map (·.1)).map rOf)
  exact this.imp (fun h => by simpa using h)
/-- Whatever rises, of the same runs, is that list. -/
theorem runsOf_is {pg : Int} {L : RL} (h : Good pg L) {l : List (Int × Int)} (hp : l.Perm ((L.map (·.1)).map rOf)) (hs : l.Pairwise fun x y => x.1 ≤ y.1) : l = runsOf L :=
  up_ext (f := fun x : Int × Int => x.1) (up_of_le hs (rows_apart h hp)) (runsOf_up h) (fun x => by rw [hp.mem_iff, (runsOf_perm L).mem_iff])
theorem runsOf_keys {L M : RL} (h : L.map (·.1) = M.map (·.1)) : runsOf L = runsOf M := by unfold runsOf; rw [h]
theorem sum_keys {L M : RL} (h : L.map (·.1) = M.map (·.1)) : (L.map fun i => rN i.1).sum = (M.map fun i => rN i.1).sum := by
  have e : ∀ L : RL, (L.map fun i => rN i.1) = (L.map (·.1)).map rN := fun L => by simp
  rw [e, e, h]
end Go.Proofs.Ytafamfjgehnddaa
