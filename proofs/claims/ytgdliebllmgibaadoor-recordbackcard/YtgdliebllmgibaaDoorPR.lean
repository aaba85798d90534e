/- Runs of pages, as keys of a rising row: what taking and putting make of them. (Numbers alone.) A head of runs, its tree, its row of draws, in memory. The calls of package runs that go through no iterator: keyOf, runOf, fit, lay, Find, Take, Drawn, Shape. Package runs: lay, Find, Take. Package runs: Take. The range over an iterator that writes memory of its own, whose body may leave the function. (Of any program.) Package runs: the iterator all; Total. The range over an iterator, both of which have memory of their own that grows. (Of any program.) Package runs: the iterator all, told so that both sides may grow. A row that grows, in a box of its own; slices.AppendSeq and slices.Collect of runs. -/
import Derived.Test.YtgdliebllmgibaaDoorPU
import Derived.Test.YtgdliebllmgibaaDoorPT
import Derived.Deep.CutRange
import Derived.Deep.CutBlock
import Derived.Sort.LoopGhostIn
import Derived.Shelf.Abstract
import Derived.Sort.QuietIn
import Derived.OwnWalkIn
import Derived.Maps.AppendAt
namespace Go.Proofs.YtgdliebllmgibaaDoor
open Go.RowKit

abbrev RL := List (It Unit)
def rA (k : Int) : Int := k % 8192
def rN (k : Int) : Int := k / 8192
def kOf (a n : Int) : Int := n * 8192 + a
theorem rA_k {a n : Int} (h0 : 0 ≤ a) (h1 : a < 8192) : rA (kOf a n) = a := by unfold rA kOf; omega
theorem rN_k {a n : Int} (h0 : 0 ≤ a) (h1 : a < 8192) : rN (kOf a n) = n := by unfold rN kOf; omega
theorem k_r (k : Int) : kOf (rA k) (rN k) = k := by unfold rA rN kOf; omega
theorem rA_bd (k : Int) : 0 ≤ rA k ∧ rA k < 8192 := by unfold rA; omega
theorem r_inj {k j : Int} (h : rA k = rA j) (g : rN k = rN j) : k = j := by rw [← k_r k, ← k_r j, h, g]

/-- Runs that lie in pg pages, with something between. -/
structure Good (pg : Int) (L : RL) : Prop where
  ris : Rising L
  ran : ∀ i ∈ L, 1 ≤ rN i.1 ∧ rA i.1 + rN i.1 ≤ pg
  sep : ∀ i ∈ L, ∀ j ∈ L, i.1 ≠ j.1 → rA i.1 + rN i.1 < rA j.1 ∨ rA j.1 + rN j.1 < rA i.1

/-- Is page p free? -/
def fr (L : RL) (p : Int) : Prop := ∃ i ∈ L, rA i.1 ≤ p ∧ p < rA i.1 + rN i.1

theorem Good.one {pg : Int} {d : Nat} (h : 1 ≤ pg) : Good pg [(kOf 0 pg, d, ())] := by
  refine ⟨List.pairwise_singleton _ _, fun i hi => ?_, fun i hi j hj hn => ?_⟩
  · rw [List.mem_singleton] at hi; subst hi
    have := rA_k (a := 0) (n := pg) (by omega) (by omega); have := rN_k (a := 0) (n := pg) (by omega) (by omega)
    simp only; omega
  · rw [List.mem_singleton] at hi hj; subst hi; subst hj; exact absurd rfl hn

theorem Good.del {pg : Int} {L : RL} (h : Good pg L) (k : Int) : Good pg (delL k L) :=
  ⟨delL_rising h.ris, fun i hi => h.ran i (delL_sub hi), fun i hi j hj => h.sep i (delL_sub hi) j (delL_sub hj)⟩

/-- Nothing of L meets the pages from a to a + n, or lies beside them. -/
def Clear (a n : Int) (L : RL) : Prop := ∀ i ∈ L, rA i.1 + rN i.1 < a ∨ a + n < rA i.1

theorem Clear.no {a n : Int} {L : RL} (h : Clear a n L) (h0 : 0 ≤ a) (h1 : a < 8192) (hn : 1 ≤ n) : getL (kOf a n) L = none :=
  getL_none_of fun i hi e => by
    have := h i hi
    rw [e, rA_k h0 h1, rN_k h0 h1] at this
    omega

theorem Good.ins {pg : Int} {L : RL} (h : Good pg L) {a n : Int} {d : Nat} (h0 : 0 ≤ a) (hn : 1 ≤ n) (hp : a + n ≤ pg) (hq : pg ≤ 4096) (hc : Clear a n L) : Good pg (insL (kOf a n) d () L) := by
  have h1 : a < 8192 := by omega
  have no := getL_none (hc.no h0 h1 hn)
  have ea := rA_k (a := a) (n := n) h0 h1
  have en := rN_k (a := a) (n := n) h0 h1
  refine ⟨insL_rising h.ris no, fun i hi => ?_, fun i hi j hj hij => ?_⟩
  · rcases insL_mem.1 hi with rfl | hi
    · simp only; omega
    · exact h.ran i hi
  · rcases insL_mem.1 hi with rfl | hi <;> rcases insL_mem.1 hj with rfl | hj
    · exact absurd rfl hij
    · have := hc j hj; simp only; omega
    · have := hc i hi; simp only; omega
    · exact h.sep i hi j hj hij
theorem fr_ins {L : RL} {a n : Int} {d : Nat} (h0 : 0 ≤ a) (h1 : a < 8192) (p : Int) : fr (insL (kOf a n) d () L) p ↔ (a ≤ p ∧ p < a + n) ∨ fr L p := by
  unfold fr
  constructor
  · rintro ⟨i, hi, h⟩
    rcases insL_mem.1 hi with rfl | hi
    · rw [rA_k h0 h1, rN_k h0 h1] at h; exact .inl h
    · exact .inr ⟨i, hi, h⟩
  · rintro (h | ⟨i, hi, h⟩)
    · exact ⟨_, insL_mem.2 (.inl rfl), by rw [rA_k h0 h1, rN_k h0 h1]; exact h⟩
    · exact ⟨i, insL_mem.2 (.inr hi), h⟩
theorem fr_del {pg : Int} {L : RL} (h : Good pg L) {i : It Unit} (hi : i ∈ L) (p : Int) : fr (delL i.1 L) p ↔ fr L p ∧ ¬ (rA i.1 ≤ p ∧ p < rA i.1 + rN i.1) := by
  unfold fr
  constructor
  · rintro ⟨j, hj, g⟩
    obtain ⟨hj, hn⟩ := delL_mem.1 hj
    refine ⟨⟨j, hj, g⟩, fun q => ?_⟩
    have := h.sep j hj i hi hn
    omega
  · rintro ⟨⟨j, hj, g⟩, q⟩
    exact ⟨j, delL_mem.2 ⟨hj, fun e => q (by rw [← e]; exact g)⟩, g⟩

/-- The run that n pages are taken from. -/
def fitL (n : Int) (L : RL) : Option (It Unit) := ceilL (kOf 0 n) L
theorem fit_some {L : RL} (hr : Rising L) {n : Int} {i : It Unit} (h : fitL n L = some i) : i ∈ L ∧ n ≤ rN i.1 ∧ ∀ j ∈ L, n ≤ rN j.1 → rN i.1 < rN j.1 ∨ (rN i.1 = rN j.1 ∧ rA i.1 ≤ rA j.1) := by
  obtain ⟨h1, h2, h3⟩ := ceilL_some hr h
  refine ⟨h1, by unfold kOf at h2; unfold rN; omega, fun j hj hn => ?_⟩
  have := h3 j hj (by unfold kOf; unfold rN at hn; omega)
  unfold rN rA; omega
theorem fit_none {L : RL} {n : Int} (h : fitL n L = none) : ∀ j ∈ L, rN j.1 < n := fun j hj => by
  have := ceilL_none h j hj
  unfold kOf at this; unfold rN; omega
/-- What is left behind a take of n pages from i. -/
def cutL (i : It Unit) (n : Int) (d : Nat) (L : RL) : RL := if n < rN i.1 then insL (kOf (rA i.1 + n) (rN i.1 - n)) d () (delL i.1 L) else delL i.1 L
theorem cut_clear {pg : Int} {L : RL} (h : Good pg L) {i : It Unit} (hi : i ∈ L) {n : Int} (hn : 1 ≤ n) : Clear (rA i.1 + n) (rN i.1 - n) (delL i.1 L) := fun j hj => by
  obtain ⟨hj, hne⟩ := delL_mem.1 hj
  have := h.sep j hj i hi hne
  omega
theorem Good.cut {pg : Int} {L : RL} (h : Good pg L) (hq : pg ≤ 4096) {i : It Unit} (hi : i ∈ L) {n : Int} (hn : 1 ≤ n) (d : Nat) : Good pg (cutL i n d L) := by
  have hr := h.ran i hi
  have ha := rA_bd i.1
  unfold cutL
  split
  · next hl => exact (h.del i.1).ins (by omega) (by omega) (by omega) hq (cut_clear h hi hn)
  · exact h.del i.1
theorem fr_cut {pg : Int} {L : RL} (h : Good pg L) (hq : pg ≤ 4096) {i : It Unit} (hi : i ∈ L) {n : Int} (hn : 1 ≤ n) (hl : n ≤ rN i.1) (d : Nat) (p : Int) : fr (cutL i n d L) p ↔ fr L p ∧ ¬ (rA i.1 ≤ p ∧ p < rA i.1 + n) := by
  have hr := h.ran i hi
  have ha := rA_bd i.1
  have hin : (rA i.1 ≤ p ∧ p < rA i.1 + rN i.1) → fr L p := fun g => ⟨i, hi, g⟩
  unfold cutL
  split
  · next hlt =>
    rw [fr_ins (by omega) (by omega), fr_del h hi]
    constructor
    · rintro (g | ⟨g1, g2⟩)
      · exact ⟨hin (by omega), by omega⟩
      · exact ⟨g1, by omega⟩
    · rintro ⟨g1, g2⟩
      by_cases g : rA i.1 ≤ p ∧ p < rA i.1 + rN i.1
      · exact .inl (by omega)
      · exact .inr ⟨g1, g⟩
  · rw [fr_del h hi, show rN i.1 = n by omega]

/-- Does a run meet the pages from a to a + n? Does it end, or begin, beside them? -/
def hits (a n k : Int) : Bool := decide (rA k < a + n ∧ a < rA k + rN k)
def besd (a n k : Int) : Bool := decide (rA k = a + n ∨ a = rA k + rN k)
theorem hits_iff {a n k : Int} : hits a n k = true ↔ rA k < a + n ∧ a < rA k + rN k := by simp [hits]
theorem besd_iff {a n k : Int} : besd a n k = true ↔ rA k = a + n ∨ a = rA k + rN k := by simp [besd]
def joinR (c : Int × Int) (k : Int) : Int × Int := (min c.1 (rA k), c.2 + rN k)

/-- What stands while runs beside are joined, one behind the other. -/
structure Joins (pg a n : Int) (L0 : RL) (c : Int × Int) (L : RL) : Prop where
  good : Good pg L
  lo : 0 ≤ c.1
  pos : 1 ≤ c.2
  hi : c.1 + c.2 ≤ pg
  nohit : ∀ i ∈ L, hits c.1 c.2 i.1 = false
  bes : ∀ i ∈ L, besd c.1 c.2 i.1 = besd a n i.1
  free : ∀ p, (fr L p ∨ (c.1 ≤ p ∧ p < c.1 + c.2)) ↔ (fr L0 p ∨ (a ≤ p ∧ p < a + n))
  tot : c.2 + (L.map fun i => rN i.1).sum = n + (L0.map fun i => rN i.1).sum

theorem sum_del {L : RL} (hr : Rising L) {i : It Unit} (hi : i ∈ L) : ((delL i.1 L).map fun i => rN i.1).sum + rN i.1 = (L.map fun i => rN i.1).sum := by
  induction L with
  | nil => cases hi
  | cons x L ih =>
    obtain ⟨h1, h2⟩ := List.pairwise_cons.1 hr
    rcases List.mem_cons.1 hi with rfl | hi'
    · have e := delL_none (L := L) (key := i.1) (fun j hj => by have := h1 j hj; omega)
      unfold delL at e ⊢
      simp [e]; omega
    · have hx : x.1 ≠ i.1 := by have := h1 i hi'; omega
      have e := ih h2 hi'
      unfold delL at e ⊢
      simp [hx]; omega
theorem sum_ins {L : RL} {k : Int} {d : Nat} : ((insL k d () L).map fun i => rN i.1).sum = rN k + (L.map fun i => rN i.1).sum := by
  have e : ∀ L : RL, ((L.filter fun i => decide (i.1 < k)).map fun i => rN i.1).sum + ((L.filter fun i => !decide (i.1 < k)).map fun i => rN i.1).sum = (L.map fun i => rN i.1).sum := by
    intro L
    induction L with
    | nil => rfl
    | cons x L ih =>
      by_cases h : x.1 < k
      · rw [List.filter_cons_of_pos (by simpa using h), List.filter_cons_of_neg (by simpa using h)]
        simp only [List.map_cons, List.sum_cons]; omega
      · rw [List.filter_cons_of_neg (by simpa using h), List.filter_cons_of_pos (by simpa using h)]
        simp only [List.map_cons, List.sum_cons]; omega
  unfold insL
  rw [List.map_append, List.map_cons, List.sum_append, List.sum_cons, ← e L]
  exact Int.add_left_comm _ _ _

theorem Joins.step {pg a n : Int} {L0 L : RL} {c : Int × Int} (h : Joins pg a n L0 c L) {i : It Unit} (hi : i ∈ L) (hb : besd a n i.1 = true) : Joins pg a n L0 (joinR c i.1) (delL i.1 L) := by
  have hr := h.good.ran i hi
  have ha := rA_bd i.1
  have hb' := h.bes i hi
  rw [hb, besd_iff] at hb'
  have g1 := h.lo; have g2 := h.pos; have g3 := h.hi
  have hm : (joinR c i.1).1 = min c.1 (rA i.1) := rfl
  have hm2 : (joinR c i.1).2 = c.2 + rN i.1 := rfl
  refine ⟨h.good.del _, by omega, by omega, by omega, fun j hj => ?_, fun j hj => ?_, fun p => ?_, ?_⟩
  · obtain ⟨hj, hne⟩ := delL_mem.1 hj
    have hs := h.good.sep j hj i hi hne
    have hn := h.nohit j hj
    have hrj := h.good.ran j hj
    rw [← Bool.not_eq_true, hits_iff] at hn ⊢
    omega
  · obtain ⟨hj, hne⟩ := delL_mem.1 hj
    have hs := h.good.sep j hj i hi hne
    have hn := h.nohit j hj
    have hrj := h.good.ran j hj
    rw [← h.bes j hj, Bool.eq_iff_iff, besd_iff, besd_iff]
    rw [← Bool.not_eq_true, hits_iff] at hn
    omega
  · rw [← h.free p, fr_del h.good hi]
    have hin : (rA i.1 ≤ p ∧ p < rA i.1 + rN i.1) → fr L p := fun g => ⟨i, hi, g⟩
    constructor
    · rintro (⟨g, _⟩ | g)
      · exact .inl g
      · by_cases q : rA i.1 ≤ p ∧ p < rA i.1 + rN i.1
        · exact .inl (hin q)
        · exact .inr (by omega)
    · rintro (g | g)
      · by_cases q : rA i.1 ≤ p ∧ p < rA i.1 + rN i.1
        · exact .inr (by omega)
        · exact .inl ⟨g, q⟩
      · exact .inr (by omega)
  · have := sum_del h.good.ris hi
    have := h.tot
    omega

theorem Joins.start {pg a n : Int} {L : RL} (h : Good pg L) (h0 : 0 ≤ a) (hn : 1 ≤ n) (hp : a + n ≤ pg) (hh : ∀ i ∈ L, hits a n i.1 = false) : Joins pg a n L (a, n) L := ⟨h, h0, hn, hp, hh, fun _ _ => rfl, fun _ => Iff.rfl, rfl⟩

/-- The keys of the runs beside, in L's order. -/
def besK (a n : Int) (L : RL) : List Int := (L.map (·.1)).filter (besd a n)
def wholeL (a n : Int) (ks : List Int) : Int × Int := ks.foldl joinR (a, n)
def delsL (ks : List Int) (L : RL) : RL := ks.foldl (fun M k => delL k M) L
theorem dels_mem {ks : List Int} {L : RL} {i : It Unit} : i ∈ delsL ks L ↔ i ∈ L ∧ i.1 ∉ ks := by
  unfold delsL
  induction ks generalizing L with
  | nil => simp
  | cons k ks ih => rw [List.foldl_cons, ih, delL_mem, List.mem_cons, not_or, and_assoc]
theorem dels_rising {ks : List Int} {L : RL} (h : Rising L) : Rising (delsL ks L) := by
  unfold delsL
  induction ks generalizing L with
  | nil => exact h
  | cons k ks ih => exact ih (delL_rising h)
theorem joins_all {pg a n : Int} {L0 : RL} : ∀ (ks : List Int) (c : Int × Int) (L : RL), ks.Nodup → (∀ k ∈ ks, besd a n k = true ∧ ∃ i ∈ L, i.1 = k) → Joins pg a n L0 c L → Joins pg a n L0 (ks.foldl joinR c) (delsL ks L)
  | [], _, _, _, _, h => h
  | k :: ks, c, L, hd, hk, h => by
    obtain ⟨hb, i, hi, rfl⟩ := hk k (by simp)
    obtain ⟨hd1, hd2⟩ := List.nodup_cons.1 hd
    refine joins_all ks (joinR c i.1) (delL i.1 L) hd2 (fun k' hk' => ?_) (h.step hi hb)
    obtain ⟨b', j, hj, rfl⟩ := hk k' (by simp [hk'])
    exact ⟨b', j, delL_mem.2 ⟨hj, fun e => hd1 (e ▸ hk')⟩, rfl⟩
theorem keys_nodup {L : RL} (h : Rising L) : (L.map (·.1)).Nodup := by
  rw [List.Nodup, List.pairwise_map]
  exact h.imp (fun h => by omega)
theorem besK_mem {a n : Int} {L : RL} {k : Int} : k ∈ besK a n L ↔ besd a n k = true ∧ ∃ i ∈ L, i.1 = k := by
  simp [besK]; constructor <;> (rintro ⟨h1, h2⟩; exact ⟨h2, h1⟩)
/-- What is left behind a put. -/
def laidL (a n : Int) (d : Nat) (L : RL) : RL := insL (kOf (wholeL a n (besK a n L)).1 (wholeL a n (besK a n L)).2) d () (delsL (besK a n L) L)
theorem joins_put {pg a n : Int} {L : RL} (h : Good pg L) (h0 : 0 ≤ a) (hn : 1 ≤ n) (hp : a + n ≤ pg) (hh : ∀ i ∈ L, hits a n i.1 = false) :
    Joins pg a n L (wholeL a n (besK a n L)) (delsL (besK a n L) L) ∧ Clear (wholeL a n (besK a n L)).1 (wholeL a n (besK a n L)).2 (delsL (besK a n L) L) := by
  have hj := joins_all (besK a n L) (a, n) L ((keys_nodup h.ris).filter _) (fun k hk => besK_mem.1 hk) (Joins.start h h0 hn hp hh)
  refine ⟨hj, fun i hi => ?_⟩
  obtain ⟨h1, h2⟩ := dels_mem.1 hi
  have b0 : besd a n i.1 = false := by
    rw [← Bool.not_eq_true]; exact fun e => h2 (besK_mem.2 ⟨e, i, h1, rfl⟩)
  have b1 := hj.bes i hi
  have b2 := hj.nohit i hi
  have b3 := h.ran i h1
  unfold wholeL at *
  rw [b0, ← Bool.not_eq_true, besd_iff] at b1
  rw [← Bool.not_eq_true, hits_iff] at b2
  omega
theorem Good.put {pg a n : Int} {L : RL} (h : Good pg L) (hq : pg ≤ 4096) (h0 : 0 ≤ a) (hn : 1 ≤ n) (hp : a + n ≤ pg) (hh : ∀ i ∈ L, hits a n i.1 = false) (d : Nat) : Good pg (laidL a n d L) := by
  obtain ⟨hj, hc⟩ := joins_put h h0 hn hp hh
  exact hj.good.ins hj.lo hj.pos hj.hi hq hc
theorem fr_put {pg a n : Int} {L : RL} (h : Good pg L) (hq : pg ≤ 4096) (h0 : 0 ≤ a) (hn : 1 ≤ n) (hp : a + n ≤ pg) (hh : ∀ i ∈ L, hits a n i.1 = false) (d : Nat) (p : Int) : fr (laidL a n d L) p ↔ fr L p ∨ (a ≤ p ∧ p < a + n) := by
  obtain ⟨hj, hc⟩ := joins_put h h0 hn hp hh
  have := hj.hi; have := hj.pos
  unfold laidL
  rw [fr_ins hj.lo (by omega), ← hj.free p, or_comm]
theorem sum_put {pg a n : Int} {L : RL} (h : Good pg L) (hq : pg ≤ 4096) (h0 : 0 ≤ a) (hn : 1 ≤ n) (hp : a + n ≤ pg) (hh : ∀ i ∈ L, hits a n i.1 = false) (d : Nat) : ((laidL a n d L).map fun i => rN i.1).sum = (L.map fun i => rN i.1).sum + n := by
  obtain ⟨hj, hc⟩ := joins_put h h0 hn hp hh
  have := hj.hi; have := hj.pos; have := hj.tot
  unfold laidL
  rw [sum_ins, rN_k hj.lo (by omega)]
  omega
theorem hit_fr {pg a n : Int} {L : RL} (h : Good pg L) (hn : 1 ≤ n) : (∃ i ∈ L, hits a n i.1 = true) ↔ ∃ p, a ≤ p ∧ p < a + n ∧ fr L p := by
  constructor
  · rintro ⟨i, hi, g⟩
    have hr := h.ran i hi
    rw [hits_iff] at g
    exact ⟨max a (rA i.1), by omega, by omega, i, hi, by omega, by omega⟩
  · rintro ⟨p, g1, g2, i, hi, g3, g4⟩
    exact ⟨i, hi, hits_iff.2 ⟨by omega, by omega⟩⟩

/-- Two rows that free the same pages have the same keys. -/
theorem keys_of_fr {pg : Int} {L M : RL} (hL : Good pg L) (hM : Good pg M) (h : ∀ p, fr L p ↔ fr M p) : ∀ i ∈ L, ∃ j ∈ M, j.1 = i.1 := by
  intro i hi
  have hr := hL.ran i hi
  obtain ⟨j, hj, g1, g2⟩ := (h (rA i.1)).1 ⟨i, hi, by omega, by omega⟩
  have hrj := hM.ran j hj
  have front : rA j.1 = rA i.1 := by
    by_cases e : rA j.1 = rA i.1
    · exact e
    · obtain ⟨i2, hi2, q1, q2⟩ := (h (rA i.1 - 1)).2 ⟨j, hj, by omega, by omega⟩
      by_cases e2 : i2.1 = i.1
      · rw [e2] at q1; omega
      · have := hL.sep i2 hi2 i hi e2; have := hL.ran i2 hi2; omega
  have tail1 : rN i.1 ≤ rN j.1 := by
    rcases Int.lt_or_le (rN j.1) (rN i.1) with q | q
    · obtain ⟨j2, hj2, q1, q2⟩ := (h (rA i.1 + rN j.1)).1 ⟨i, hi, by omega, by omega⟩
      by_cases e2 : j2.1 = j.1
      · rw [e2] at q1 q2; omega
      · have := hM.sep j2 hj2 j hj e2; have := hM.ran j2 hj2; omega
    · exact q
  have tail2 : rN j.1 ≤ rN i.1 := by
    rcases Int.lt_or_le (rN i.1) (rN j.1) with q | q
    · obtain ⟨i2, hi2, q1, q2⟩ := (h (rA i.1 + rN i.1)).2 ⟨j, hj, by omega, by omega⟩
      by_cases e2 : i2.1 = i.1
      · rw [e2] at q1 q2; omega
      · have := hL.sep i2 hi2 i hi e2; have := hL.ran i2 hi2; omega
    · exact q
  exact ⟨j, hj, r_inj front (by omega)⟩

/-- Rising rows of numbers with the same members are one. -/
theorem up_ext {β : Type} {f : β → Int} {l m : List β} (hl : l.Pairwise fun a b => f a < f b) (hm : m.Pairwise fun a b => f a < f b) (h : ∀ x, x ∈ l ↔ x ∈ m) : l = m := by
  induction l generalizing m with
  | nil =>
    cases m with
    | nil => rfl
    | cons b m => have := (h b).2 (by simp); simp at this
  | cons a l ih =>
    cases m with
    | nil => have := (h a).1 (by simp); simp at this
    | cons b m =>
      obtain ⟨hl1, hl2⟩ := List.pairwise_cons.1 hl
      obtain ⟨hm1, hm2⟩ := List.pairwise_cons.1 hm
      have hab : a = b := by
        rcases List.mem_cons.1 ((h a).1 (by simp)) with e | e
        · exact e
        · rcases List.mem_cons.1 ((h b).2 (by simp)) with e2 | e2
          · exact e2.symm
          · have := hm1 a e; have := hl1 b e2; omega
      subst hab
      congr 1
      refine ih hl2 hm2 (fun x => ⟨fun hx => ?_, fun hx => ?_⟩)
      · rcases List.mem_cons.1 ((h x).1 (by simp [hx])) with e | e
        · subst e; have := hl1 x hx; omega
        · exact e
      · rcases List.mem_cons.1 ((h x).2 (by simp [hx])) with e | e
        · subst e; have := hm1 x hx; omega
        · exact e
theorem keys_eq {pg : Int} {L M : RL} (hL : Good pg L) (hM : Good pg M) (h : ∀ p, fr L p ↔ fr M p) : L.map (·.1) = M.map (·.1) := by
  refine up_ext (f := fun k => k) (List.pairwise_map.2 hL.ris) (List.pairwise_map.2 hM.ris) (fun k => ?_)
  simp only [List.mem_map]
  exact ⟨fun ⟨i, hi, e⟩ => by obtain ⟨j, hj, e2⟩ := keys_of_fr hL hM h i hi; exact ⟨j, hj, e2.trans e⟩, fun ⟨i, hi, e⟩ => by obtain ⟨j, hj, e2⟩ := keys_of_fr hM hL (fun p => (h p).symm) i hi; exact ⟨j, hj, e2.trans e⟩⟩

/-- The runs, rising by their pages. -/
def rOf (k : Int) : Int × Int := (rA k, rN k)
def runsOf (L : RL) : List (Int × Int) := ((L.map (·.1)).map rOf).mergeSort (fun x y => decide (x.1 ≤ y.1))
theorem runsOf_perm (L : RL) : (runsOf L).Perm ((L.map (·.1)).map rOf) := List.mergeSort_perm _ _
theorem runsOf_mem {L : RL} {x : Int × Int} : x ∈ runsOf L ↔ ∃ i ∈ L, x = (rA i.1, rN i.1) := by
  rw [(runsOf_perm L).mem_iff]; simp [rOf, eq_comm]
theorem runsOf_length (L : RL) : (runsOf L).length = L.length := by rw [(runsOf_perm L).length_eq]; simp
theorem up_of_le {l : List (Int × Int)} (h : l.Pairwise fun x y => x.1 ≤ y.1) (hd : l.Pairwise fun x y => x.1 ≠ y.1) : l.Pairwise fun x y => x.1 < y.1 := by
  induction l with
  | nil => exact .nil
  | cons a l ih =>
    obtain ⟨h1, h2⟩ := List.pairwise_cons.1 h
    obtain ⟨d1, d2⟩ := List.pairwise_cons.1 hd
    exact List.pairwise_cons.2 ⟨fun x hx => by have := h1 x hx; have := d1 x hx; omega, ih h2 d2⟩
theorem rows_apart {pg : Int} {L : RL} (h : Good pg L) {l : List (Int × Int)} (hp : l.Perm ((L.map (·.1)).map rOf)) : l.Pairwise fun x y => x.1 ≠ y.1 := by
  refine hp.symm.pairwise (R := fun x y : Int × Int => x.1 ≠ y.1) ?_ (fun h => h.symm)
  rw [List.pairwise_map, List.pairwise_map]
  refine List.Pairwise.imp_of_mem (fun {i j} hi hj hlt => ?_) h.ris
  have := h.sep i hi j hj (by omega)
  have := h.ran i hi; have := h.ran j hj
  simp only [rOf]; omega
theorem runsOf_up {pg : Int} {L : RL} (h : Good pg L) : (runsOf L).Pairwise fun x y => x.1 < y.1 := by
  refine up_of_le ?_ (rows_apart h (runsOf_perm L))
  have := List.pairwise_mergeSort (le := fun x y : Int × Int => decide (x.1 ≤ y.1)) (fun a b c h1 h2 => by simp at *; omega) (fun a b => by simp; omega) ((L.map (·.1)).map rOf)
  exact this.imp (fun h => by simpa using h)
/-- Whatever rises, of the same runs, is that list. -/
theorem runsOf_is {pg : Int} {L : RL} (h : Good pg L) {l : List (Int × Int)} (hp : l.Perm ((L.map (·.1)).map rOf)) (hs : l.Pairwise fun x y => x.1 ≤ y.1) : l = runsOf L :=
  up_ext (f := fun x : Int × Int => x.1) (up_of_le hs (rows_apart h hp)) (runsOf_up h) (fun x => by rw [hp.mem_iff, (runsOf_perm L).mem_iff])
theorem runsOf_keys {L M : RL} (h : L.map (·.1) = M.map (·.1)) : runsOf L = runsOf M := by unfold runsOf; rw [h]
theorem sum_keys {L M : RL} (h : L.map (·.1) = M.map (·.1)) : (L.map fun i => rN i.1).sum = (M.map fun i => rN i.1).sum := by
  have e : ∀ L : RL, (L.map fun i => rN i.1) = (L.map (·.1)).map rN := fun L => by simp
  rw [e, e, h]
end Go.Proofs.YtgdliebllmgibaaDoor

namespace Go.Proofs.YtgdliebllmgibaaDoor
open Go.RowKit

/-- The numbers of ds lie where a points. -/
def DrawsAt (w : World) (a : Option Addr) (ds : List Nat) : Prop := ds ≠ [] → ∃ g, a = some ⟨g, 0, none⟩ ∧ g < w.heap.size ∧ ∀ i, i < ds.length → w.cell? ⟨g, i, none⟩ = some (.int .u32 ((ds.getD i 0 : Nat) : Int))

def rCells (pg t : Nat) (a : Option Addr) (k c dn : Nat) : Array Value := #[.int .i64 (pg : Int), .pointer (some ⟨t, 0, none⟩), .slice a k c, .int .i64 (dn : Int)]

structure RAt (w : World) (r t : Nat) (T : Tr Unit) (pg : Nat) (a : Option Addr) (c : Nat) (ds : List Nat) (dn : Nat) (L : RL) : Prop where
  head : w.heap[r]? = some (.cells (rCells pg t a ds.length c dn) 113 (0, 0))
  tree : TAtE w t T L
  out : ¬ Ftp t T r
  row : DrawsAt w a ds
  apart : ds ≠ [] → ∀ g, a = some ⟨g, 0, none⟩ → g ≠ r ∧ ¬ Ftp t T g

/-- The blocks of it. -/
def RF (r t : Nat) (T : Tr Unit) (a : Option Addr) (ds : List Nat) (x : Nat) : Prop := x = r ∨ Ftp t T x ∨ (ds ≠ [] ∧ a = some ⟨x, 0, none⟩)
/-- Those that calls turn. -/
def RM (r t : Nat) (T : Tr Unit) (x : Nat) : Prop := x = r ∨ Ftp t T x

theorem RAt.lt {w : World} {r t : Nat} {T : Tr Unit} {pg : Nat} {a : Option Addr} {c : Nat} {ds : List Nat} {dn : Nat} {L : RL} (h : RAt w r t T pg a c ds dn L) {x : Nat} (hx : RF r t T a ds x) : x < w.heap.size := by
  rcases hx with rfl | hx | ⟨h1, h2⟩
  · exact lt_of_heap h.head
  · exact h.tree.lt hx
  · obtain ⟨g, e, hg, _⟩ := h.row h1
    rw [h2] at e; cases e; exact hg
theorem DrawsAt.kept {w w' : World} {a : Option Addr} {ds : List Nat} {M : Nat → Prop} (h : DrawsAt w a ds) (o : Only M w w') (hn : ds ≠ [] → ∀ g, a = some ⟨g, 0, none⟩ → ¬ M g) : DrawsAt w' a ds := fun hd => by
  obtain ⟨g, e, hg, hc⟩ := h hd
  exact ⟨g, e, Nat.lt_of_lt_of_le hg o.size, fun i hi => (o.cell (p := ⟨g, i, none⟩) hg (hn hd g e)).trans (hc i hi)⟩
theorem RAt.kept {w w' : World} {r t : Nat} {T : Tr Unit} {pg : Nat} {a : Option Addr} {c : Nat} {ds : List Nat} {dn : Nat} {L : RL} {M : Nat → Prop} (h : RAt w r t T pg a c ds dn L) (o : Only M w w') (hn : ∀ x, RF r t T a ds x → ¬ M x) : RAt w' r t T pg a c ds dn L :=
  ⟨(o.block r (lt_of_heap h.head) (hn r (.inl rfl))).trans h.head, h.tree.kept o (fun x hx => hn x (.inr (.inl hx))), h.out, h.row.kept o (fun hd g e => hn g (.inr (.inr ⟨hd, e⟩))), h.apart⟩
theorem RAt.below {w w' : World} {r t : Nat} {T : Tr Unit} {pg : Nat} {a : Option Addr} {c : Nat} {ds : List Nat} {dn : Nat} {L : RL} (h : RAt w r t T pg a c ds dn L) (o : Below w.heap.size w w') : RAt w' r t T pg a c ds dn L :=
  h.kept (Below.only o (fun _ => False)) (fun _ _ h => h)
theorem RAt.alike {w w' : World} {r t : Nat} {T : Tr Unit} {pg : Nat} {a : Option Addr} {c : Nat} {ds : List Nat} {dn : Nat} {L : RL} (h : RAt w r t T pg a c ds dn L) (o : Alike w w') : RAt w' r t T pg a c ds dn L := h.below (o.below _)

/-- In w' they are so; but for their own blocks, and new ones, the worlds are one. -/
def RTurned (w w' : World) (r t : Nat) (T : Tr Unit) (pg : Nat) (a : Option Addr) (c : Nat) (ds : List Nat) (dn' : Nat) (L' : RL) : Prop :=
  ∃ T', RAt w' r t T' pg a c ds dn' L' ∧ Only (RM r t T) w w' ∧ ∀ x, RM r t T' x → RM r t T x ∨ w.heap.size ≤ x

theorem RTurned.same {w w' : World} {r t : Nat} {T : Tr Unit} {pg : Nat} {a : Option Addr} {c : Nat} {ds : List Nat} {dn : Nat} {L : RL} (h : RAt w r t T pg a c ds dn L) (b : Below w.heap.size w w') : RTurned w w' r t T pg a c ds dn L :=
  ⟨T, h.below b, Below.only b _, fun _ h => .inl h⟩
theorem RTurned.left {w u w' : World} {r t : Nat} {T : Tr Unit} {pg : Nat} {a : Option Addr} {c : Nat} {ds : List Nat} {dn : Nat} {L : RL} (b : Below w.heap.size w u) (h : RTurned u w' r t T pg a c ds dn L) : RTurned w w' r t T pg a c ds dn L := by
  obtain ⟨T', h1, h2, h3⟩ := h
  exact ⟨T', h1, (Below.only b _).trans h2, fun x hx => (h3 x hx).imp (fun e => e) (fun e => Nat.le_trans b.size e)⟩
theorem RTurned.right {w u w' : World} {r t : Nat} {T : Tr Unit} {pg : Nat} {a : Option Addr} {c : Nat} {ds : List Nat} {dn : Nat} {L : RL} (h : RTurned w u r t T pg a c ds dn L) (b : Below u.heap.size u w') : RTurned w w' r t T pg a c ds dn L := by
  obtain ⟨T', h1, h2, h3⟩ := h
  exact ⟨T', h1.below b, h2.trans (Below.only b _), h3⟩
theorem RTurned.trans {w u w' : World} {r t : Nat} {T : Tr Unit} {pg : Nat} {a : Option Addr} {c : Nat} {ds : List Nat} {dn dn' : Nat} {L L' : RL} (h : RTurned w u r t T pg a c ds dn L)
    (g : ∀ T', RAt u r t T' pg a c ds dn L → RTurned u w' r t T' pg a c ds dn' L') : RTurned w w' r t T pg a c ds dn' L' := by
  obtain ⟨T', h1, h2, h3⟩ := h
  obtain ⟨T2, k1, k2, k3⟩ := g T' h1
  refine ⟨T2, k1, h2.thenNew k2 (fun i hi hm => (h3 i hm).elim (fun e => e) (fun e => by omega)), fun x hx => ?_⟩
  rcases k3 x hx with q | q
  · exact h3 x q
  · exact .inr (Nat.le_trans h2.size q)
theorem RTurned.chain {w u w' : World} {r t : Nat} {T T' : Tr Unit} {pg : Nat} {a : Option Addr} {c : Nat} {ds : List Nat} {dn' : Nat} {L' : RL} (o : Only (RM r t T) w u) (m : ∀ x, RM r t T' x → RM r t T x ∨ w.heap.size ≤ x)
    (g : RTurned u w' r t T' pg a c ds dn' L') : RTurned w w' r t T pg a c ds dn' L' := by
  obtain ⟨T2, k1, k2, k3⟩ := g
  refine ⟨T2, k1, o.thenNew k2 (fun i hi hm => (m i hm).elim (fun e => e) (fun e => by omega)), fun x hx => ?_⟩
  rcases k3 x hx with q | q
  · exact m x q
  · exact .inr (Nat.le_trans o.size q)
/-- The tree alone is turned. -/
theorem RAt.tree' {w w' : World} {r t : Nat} {T : Tr Unit} {pg : Nat} {a : Option Addr} {c : Nat} {ds : List Nat} {dn : Nat} {L L' : RL} (h : RAt w r t T pg a c ds dn L) (g : TurnedE w w' t T L') : RTurned w w' r t T pg a c ds dn L' := by
  obtain ⟨T', g1, g2, g3⟩ := g
  have hr := lt_of_heap h.head
  refine ⟨T', ⟨(g2.block r hr h.out).trans h.head, g1, fun e => ?_, h.row.kept g2 (fun hd g e => (h.apart hd g e).2), fun hd g e => ⟨(h.apart hd g e).1, fun q => ?_⟩⟩, g2.mono (fun x _ hx => .inr hx), fun x hx => ?_⟩
  · rcases g3 r e with q | q
    · exact h.out q
    · omega
  · rcases g3 g q with q | q
    · exact (h.apart hd g e).2 q
    · have := h.lt (x := g) (.inr (.inr ⟨hd, e⟩)); omega
  · rcases hx with rfl | hx
    · exact .inl (.inl rfl)
    · exact (g3 x hx).imp .inr (fun q => q)
/-- One more draw is counted. -/
theorem RAt.count {w : World} {r t : Nat} {T : Tr Unit} {pg : Nat} {a : Option Addr} {c : Nat} {ds : List Nat} {dn : Nat} {L : RL} (h : RAt w r t T pg a c ds dn L) (m : Nat) : RTurned w (w.setCell ⟨r, 3, none⟩ (.int .i64 (m : Int))) r t T pg a c ds m L := by
  have o : Only (RM r t T) w (w.setCell ⟨r, 3, none⟩ (.int .i64 (m : Int))) := (Only.refl _ w).setCell (.inl (.inl rfl)) _
  have o' : Only (fun x => x = r) w (w.setCell ⟨r, 3, none⟩ (.int .i64 (m : Int))) := (Only.refl (fun x => x = r) w).setCell (p := ⟨r, 3, none⟩) (.inl rfl) _
  refine ⟨T, ⟨?_, h.tree.kept o' (fun x hx e => h.out (e ▸ hx)), h.out, h.row.kept o' (fun hd g e => (h.apart hd g e).1), h.apart⟩, o, fun _ hx => .inl hx⟩
  have := heap_setCell_at (o := 3) h.head (.int .i64 (m : Int))
  exact this

/-- Runs beside other things: pg pages, draws ds, dn of them taken, the runs L. -/
def RR (r pg : Nat) (ds : List Nat) (dn : Nat) (L : RL) : Res := fun w G => ∃ t T a c, RAt w r t T pg a c ds dn L ∧ ∀ x, G x ↔ RF r t T a ds x
theorem Loc.rr {r pg : Nat} {ds : List Nat} {dn : Nat} {L : RL} : Loc (RR r pg ds dn L) :=
  ⟨fun ⟨t, T, a, c, h, e⟩ o hn => ⟨t, T, a, c, h.kept o (fun x hx => hn x ((e x).2 hx)), e⟩, fun ⟨_, _, _, _, h, e⟩ hx => h.lt ((e _).1 hx)⟩
theorem Own.runs {r pg : Nat} {ds : List Nat} {dn : Nat} {L : RL} {R : Res} {w0 w : World} (l : Loc R) (h : Own (Sep (RR r pg ds dn L) R) w0 w) :
    ∃ t T a c, RAt w r t T pg a c ds dn L ∧ ∀ {w' dn' L'}, RTurned w w' r t T pg a c ds dn' L' → Own (Sep (RR r pg ds dn' L') R) w0 w' := by
  obtain ⟨G, ⟨G1, G2, ⟨t, T, a, c, h1, e⟩, b, s, d⟩, h2, h3⟩ := h
  refine ⟨t, T, a, c, h1, fun {w' dn' L'} ⟨T', g1, g2, g3⟩ => ?_⟩
  refine Own.step (G1 := G1) (G1' := RF r t T' a ds) (G2 := G2) l h3 (fun x hx => h2 x ((d x).2 hx)) b s ⟨t, T', a, c, g1, fun _ => Iff.rfl⟩ (g2.mono (fun x _ hx => (e x).2 (hx.elim .inl (fun q => .inr (.inl q))))) (fun x hx => ?_)
  rcases hx with rfl | hx | hx
  · exact .inl ((e _).2 (.inl rfl))
  · rcases g3 x (.inr hx) with q | q
    · exact .inl ((e x).2 (q.elim .inl (fun q => .inr (.inl q))))
    · exact .inr q
  · exact .inl ((e x).2 (.inr (.inr hx)))
theorem Own.runsNew {r pg : Nat} {ds : List Nat} {dn : Nat} {L : RL} {R : Res} {w0 w w' : World} (l : Loc R) (h : Own R w0 w) {t : Nat} {T : Tr Unit} {a : Option Addr} {c : Nat} (hR : RAt w' r t T pg a c ds dn L) (hn : ∀ x, RF r t T a ds x → w.heap.size ≤ x) (b : Below w.heap.size w w') : Own (Sep (RR r pg ds dn L) R) w0 w' := by
  obtain ⟨G, h1, h2, h3⟩ := h
  refine ⟨fun x => RF r t T a ds x ∨ G x, ⟨RF r t T a ds, G, ⟨t, T, a, c, hR, fun _ => Iff.rfl⟩, l.kept h1 (Below.only b (fun _ => False)) (fun _ _ h => h), fun x hx q => ?_, fun _ => Iff.rfl⟩, fun x hx => ?_, h3.trans (b.mono h3.size)⟩
  · have := l.lt h1 q; have := hn x hx; omega
  · rcases hx with hx | hx
    · exact Nat.le_trans h3.size (hn x hx)
    · exact h2 x hx
end Go.Proofs.YtgdliebllmgibaaDoor

namespace Go.Proofs.YtgdliebllmgibaaDoor
open Go.RowKit

theorem keyOf36 (a n : Int) (h : 0 ≤ a ∧ a < 8192 ∧ 0 ≤ n ∧ n < 1000000) (w : World) :
    Calls Tryd.prog 83 #[.agg #[.int .i64 a, .int .i64 n]] w fun e w' => e = .returned (.int .i64 (kOf a n)) ∧ Below w.heap.size w w' := by
  have hB : Below w.heap.size w (w.alloc (.cells #[.int .i64 a, .int .i64 n] 116)) := (Below.refl _ w).alloc (Nat.le_refl _) _
  obtain ⟨h0, h1, h2, h3⟩ := h
  go_enter Tryd.func83, Tryd.ntmps83
  go_wp2
  go_ret
  exact ⟨rfl, hB⟩

/-- Two cells of block r are put; what holds of a world in which they lie holds of that one. -/
theorem store2 {w0 w : World} {n r : Nat} {a0 a1 : Value} {t : TypeId} (hs : w.heap[r]? = some (.cells #[a0, a1] t (0, 0))) (hB : Below n w0 w) (hr : n ≤ r) {v0 v1 : Value} {R : World → Prop}
    (k : ∀ W : World, Below n w0 W → W.heap[r]? = some (.cells #[v0, v1] t (0, 0)) → R W) :
    R ((w.setCell ⟨r, 0, none⟩ v0).setCell ⟨r, 1, none⟩ v1) := by
  have e := heap_setCell_at (o := 1) (heap_setCell_at (o := 0) hs v0) v1
  exact k _ ((hB.setCell hr _).setCell hr _) e

end Go.Proofs.YtgdliebllmgibaaDoor

namespace Go.Proofs.YtgdliebllmgibaaDoor
open Go.RowKit

theorem RAt.cells {w : World} {r t : Nat} {T : Tr Unit} {pg : Nat} {a : Option Addr} {c : Nat} {ds : List Nat} {dn : Nat} {L : RL} (h : RAt w r t T pg a c ds dn L) :
    w.cell? ⟨r, 0, none⟩ = some (.int .i64 (pg : Int)) ∧ w.cell? ⟨r, 1, none⟩ = some (.pointer (some ⟨t, 0, none⟩)) ∧ w.cell? ⟨r, 2, none⟩ = some (.slice a ds.length c) ∧ w.cell? ⟨r, 3, none⟩ = some (.int .i64 (dn : Int)) ∧ ∀ o, w.frozen? ⟨r, o, none⟩ = false :=
  ⟨cell_of_heap h.head, cell_of_heap h.head, cell_of_heap h.head, cell_of_heap h.head, fun _ => frozen_of_heap h.head⟩

set_option maxRecDepth 100000 in
set_option maxHeartbeats 2000000 in
theorem lay32 (w : World) (r t : Nat) (T : Tr Unit) (pg : Nat) (a : Option Addr) (c : Nat) (ds : List Nat) (dn : Nat) (L : RL) (h : RAt w r t T pg a c ds dn L) (x n : Int) (hx : 0 ≤ x ∧ x < 8192 ∧ 0 ≤ n ∧ n < 1000000) (hg : getL (kOf x n) L = none) (hl : L.length ≤ 1000000) (hdn : dn < 1099511627776) :
    Calls Tryd.prog 56 #[.pointer (some ⟨r, 0, none⟩), .agg #[.int .i64 x, .int .i64 n]] w fun e w' => e = .returned (.tuple #[]) ∧ RTurned w w' r t T pg a c ds (dn + 1) (insL (kOf x n) (ds.getD dn 0) () L) := by
  obtain ⟨B, hBe⟩ : ∃ B, w.heap.size = B := ⟨_, rfl⟩
  have hB : Below w.heap.size w (w.alloc (.cells #[.int .i64 x, .int .i64 n] 116)) := (Below.refl _ w).alloc (Nat.le_refl _) _
  have hb0 : (w.alloc (.cells #[.int .i64 x, .int .i64 n] 116)).heap[B]? = some (.cells #[.int .i64 x, .int .i64 n] 116 (0, 0)) := by rw [← hBe]; exact heap_alloc_at _ _
  have hT0 : ∀ {y : Nat}, Ftp t T y → y < B := fun {y} hy => by rw [← hBe]; exact h.tree.lt hy
  replace h := h.below hB
  obtain ⟨_, _, c2, c3, _⟩ := h.cells
  have HK := fun w => hide (keyOf36 x n hx w)
  have HBT : Hid (¬ Ftp t T B) := hide (fun e => by have := hT0 e; omega)
  by_cases hd : dn < ds.length
  · obtain ⟨g, hg1, _, hg2⟩ := h.row (by intro e; rw [e] at hd; simp at hd)
    have c4 := hg2 dn hd
    have d1 : decide ((dn : Int) < (ds.length : Int)) = true := by simp; omega
    have d2 : decide (dn < ds.length) = true := by simp; omega
    subst hg1
    obtain ⟨dd, hdd⟩ : ∃ dd, ds.getD dn 0 = dd := ⟨_, rfl⟩
    rw [hdd] at c4 ⊢
    go_enter Tryd.func56, Tryd.ntmps56
    go_wp2_with fail
    generalize w.alloc (.cells #[.int .i64 x, .int .i64 n] 116) = w0 at *
    have HH := hide h
    have HG := hide hg
    have HB0 := hide hb0
    clear h hg hg2 hb0 hBe hT0
    go_quiet (fail)
    have c2' : (w0.drewN nq).cell? ⟨r, 2, none⟩ = some (.slice (some ⟨g, 0, none⟩) ds.length c) := c2
    have c3' : (w0.drewN nq).cell? ⟨r, 3, none⟩ = some (.int .i64 (dn : Int)) := c3
    have c4' : (w0.drewN nq).cell? ⟨g, dn, none⟩ = some (.int .u32 (dd : Int)) := c4
    clear c2 c3 c4
    have HV0 : Hid (Alike w0 (w0.drewN nq)) := hide ⟨rfl, rfl, rfl, rfl⟩
    generalize w0.drewN nq = V0 at *
    go_wp2
    go_quiet (fail)
    go_wp2
    obtain ⟨WW, hWW⟩ : ∃ WW, V0.drewN nq = WW := ⟨_, rfl⟩
    rw [hWW]
    have HWW : Hid (Alike w0 WW) := hide (by rw [← hWW]; exact HV0.out.trans (Alike.drewN _ _))
    replace HH := hide (HH.out.alike HWW.out)
    replace HB0 : Hid (WW.heap[B]? = some (.cells #[.int .i64 x, .int .i64 n] 116 (0, 0))) := hide (by rw [HWW.out.heap]; exact HB0.out)
    clear hWW
    obtain ⟨_, C1, _, C3, CF⟩ := HH.out.cells
    have hxB := HB0.out
    have C0 : Hid (CellsOf [(r, 1, .pointer (some ⟨t, 0, none⟩)), (B, 0, .int .i64 x), (B, 1, .int .i64 n)] WW.drew) := by
      intro q hq
      simp only [List.mem_cons, List.not_mem_nil, or_false] at hq
      rcases hq with rfl | rfl | rfl
      · exact C1
      · exact cell_of_heap hxB
      · exact cell_of_heap hxB
    have hBr : B ≠ r := fun e => by rw [e, HH.out.head] at hxB; have := congrArg (fun o : Option Obj => match o with | some (.cells c _ _) => c.size | _ => 0) hxB; simp [rCells] at this
    obtain ⟨CL, hCL⟩ : ∃ CL : List (Nat × Nat × Value), CL = [(r, 1, .pointer (some ⟨t, 0, none⟩)), (B, 0, .int .i64 x), (B, 1, .int .i64 n)] := ⟨_, rfl⟩
    have u0 : ∀ u : Mem (CellsOf CL), u.w'.cell? ⟨r, 1, none⟩ = some (.pointer (some ⟨t, 0, none⟩)) := fun u => u.h (r, 1, .pointer (some ⟨t, 0, none⟩)) (by simp [hCL])
    have u1 : ∀ u : Mem (CellsOf CL), u.w'.cell? ⟨B, 0, none⟩ = some (.int .i64 x) := fun u => u.h (B, 0, .int .i64 x) (by simp [hCL])
    have u2 : ∀ u : Mem (CellsOf CL), u.w'.cell? ⟨B, 1, none⟩ = some (.int .i64 n) := fun u => u.h (B, 1, .int .i64 n) (by simp [hCL])
    rw [← hCL] at C0
    have hne : Nonempty (Mem (CellsOf CL)) := ⟨⟨_, C0.out⟩⟩
    have HCL : Hid (∀ q ∈ CL, q.1 = r ∨ q.1 = B) := hide (by rw [hCL]; simp)
    clear hCL C1 C3 CF hxB
    refine region_start (J := CellsOf CL) (by kernel_rfl) ?_
    refine stretch (fuel := 2) (by kernel_rfl) (fun _ _ _ _ _ h => h) C0.out [0, 1, 2, 3, 4, 6, 7] (by kernel_rfl) ?_
    simp only [List.filterMap_cons, List.filterMap_nil, List.getElem?_toArray, List.getElem?_cons_zero, List.getElem?_cons_succ]
    show wpQuiet _ _ _ _ [_, _, _, _, _, _, _] _
    repeat (go_big_quiet_step (fail))
    refine wpQuiet_nil ?_
    refine wpAnyJ_writer (i := 5) rfl (by kernel_rfl) (fun K hK => ?_)
    go_simp
    refine (HK _).out.mono ?_
    rintro e w1 ⟨rfl, hb1⟩
    have hs0 : B < WW.heap.size ∧ r < WW.heap.size := ⟨lt_of_heap HB0.out, lt_of_heap HH.out.head⟩
    have h1 : RAt w1 r t T pg _ c ds dn L := (HH.out.alike (w' := WW.drew) ⟨rfl, rfl, rfl, rfl⟩).below hb1
    have HC1 := hide (C0.out.only (Below.only hb1 (fun _ => False)) (fun q hq => ⟨by rcases HCL.out q hq with e | e <;> rw [e]; exact hs0.2; exact hs0.1, fun f => f⟩))
    have HB1 : Hid (Below WW.heap.size WW w1) := hide (((⟨rfl, rfl, rfl, rfl⟩ : Alike WW WW.drew).below _).trans hb1)
    have HP := hide (putYesE w1 t T L h1.tree (kOf x n) dd () HG.out (by omega))
    have H1 := hide h1
    refine hK _ _ HC1.out ?_
    clear hK K hb1 h1
    refine wpAnyJ_writer (i := 8) rfl (by kernel_rfl) (fun K hK => ?_)
    go_simp
    refine HP.out.mono ?_
    rintro e w2 ⟨rfl, h2⟩
    have hO : Only (Ftp t T) w1 w2 := by obtain ⟨_, _, o, _⟩ := h2; exact o
    have hBt : ¬ Ftp t T B := HBT.out
    have hC2 := HC1.out.only hO (fun q hq => ⟨by have := HB1.out.size; rcases HCL.out q hq with e | e <;> rw [e] <;> omega, by rcases HCL.out q hq with e | e <;> rw [e]; exact H1.out.out; exact hBt⟩)
    refine hK _ _ hC2 ?_
    clear hK K hC2 hO
    refine wpAnyJ_done (by kernel_rfl) ?_
    have H2 := hide (H1.out.tree' h2)
    obtain ⟨T2, k2, _, _⟩ := H2.out
    obtain ⟨_, _, _, C3, CF⟩ := k2.cells
    clear k2 h2
    go_wp2
    go_end0
    refine ⟨rfl, RTurned.left (hB.trans ((HWW.out.below _).trans (HB1.out.mono (by rw [HWW.out.heap]; exact hB.size)))) (H2.out.trans fun T' h' => ?_)⟩
    have := h'.count (dn + 1)
    simpa using this
  · have d1 : decide ((dn : Int) < (ds.length : Int)) = false := by simp; omega
    have d2 : decide (dn < ds.length) = false := by simp; omega
    obtain ⟨dd, hdd⟩ : ∃ dd, ds.getD dn 0 = dd := ⟨_, rfl⟩
    have hd0 : dd = 0 := by rw [← hdd]; simp [List.getD, List.getElem?_eq_none (Nat.le_of_not_lt hd)]
    rw [hdd]
    go_enter Tryd.func56, Tryd.ntmps56
    go_wp2_with fail
    generalize w.alloc (.cells #[.int .i64 x, .int .i64 n] 116) = w0 at *
    have HH := hide h
    have HG := hide hg
    have HB0 := hide hb0
    clear h hg hb0 hBe hT0 hd
    go_quiet (fail)
    clear c2 c3
    go_wp2
    subst hd0
    obtain ⟨WW, hWW⟩ : ∃ WW, w0.drewN nq = WW := ⟨_, rfl⟩
    rw [hWW]
    have HWW : Hid (Alike w0 WW) := hide (by rw [← hWW]; exact Alike.drewN _ _)
    replace HH := hide (HH.out.alike HWW.out)
    replace HB0 : Hid (WW.heap[B]? = some (.cells #[.int .i64 x, .int .i64 n] 116 (0, 0))) := hide (by rw [HWW.out.heap]; exact HB0.out)
    clear hWW
    obtain ⟨_, C1, _, C3, CF⟩ := HH.out.cells
    have hxB := HB0.out
    have C0 : Hid (CellsOf [(r, 1, .pointer (some ⟨t, 0, none⟩)), (B, 0, .int .i64 x), (B, 1, .int .i64 n)] WW.drew) := by
      intro q hq
      simp only [List.mem_cons, List.not_mem_nil, or_false] at hq
      rcases hq with rfl | rfl | rfl
      · exact C1
      · exact cell_of_heap hxB
      · exact cell_of_heap hxB
    have hBr : B ≠ r := fun e => by rw [e, HH.out.head] at hxB; have := congrArg (fun o : Option Obj => match o with | some (.cells c _ _) => c.size | _ => 0) hxB; simp [rCells] at this
    obtain ⟨CL, hCL⟩ : ∃ CL : List (Nat × Nat × Value), CL = [(r, 1, .pointer (some ⟨t, 0, none⟩)), (B, 0, .int .i64 x), (B, 1, .int .i64 n)] := ⟨_, rfl⟩
    have u0 : ∀ u : Mem (CellsOf CL), u.w'.cell? ⟨r, 1, none⟩ = some (.pointer (some ⟨t, 0, none⟩)) := fun u => u.h (r, 1, .pointer (some ⟨t, 0, none⟩)) (by simp [hCL])
    have u1 : ∀ u : Mem (CellsOf CL), u.w'.cell? ⟨B, 0, none⟩ = some (.int .i64 x) := fun u => u.h (B, 0, .int .i64 x) (by simp [hCL])
    have u2 : ∀ u : Mem (CellsOf CL), u.w'.cell? ⟨B, 1, none⟩ = some (.int .i64 n) := fun u => u.h (B, 1, .int .i64 n) (by simp [hCL])
    rw [← hCL] at C0
    have hne : Nonempty (Mem (CellsOf CL)) := ⟨⟨_, C0.out⟩⟩
    have HCL : Hid (∀ q ∈ CL, q.1 = r ∨ q.1 = B) := hide (by rw [hCL]; simp)
    clear hCL C1 C3 CF hxB
    refine region_start (J := CellsOf CL) (by kernel_rfl) ?_
    refine stretch (fuel := 2) (by kernel_rfl) (fun _ _ _ _ _ h => h) C0.out [0, 1, 2, 3, 4, 6, 7] (by kernel_rfl) ?_
    simp only [List.filterMap_cons, List.filterMap_nil, List.getElem?_toArray, List.getElem?_cons_zero, List.getElem?_cons_succ]
    show wpQuiet _ _ _ _ [_, _, _, _, _, _, _] _
    repeat (go_big_quiet_step (fail))
    refine wpQuiet_nil ?_
    refine wpAnyJ_writer (i := 5) rfl (by kernel_rfl) (fun K hK => ?_)
    go_simp
    refine (HK _).out.mono ?_
    rintro e w1 ⟨rfl, hb1⟩
    have hs0 : B < WW.heap.size ∧ r < WW.heap.size := ⟨lt_of_heap HB0.out, lt_of_heap HH.out.head⟩
    have h1 : RAt w1 r t T pg _ c ds dn L := (HH.out.alike (w' := WW.drew) ⟨rfl, rfl, rfl, rfl⟩).below hb1
    have HC1 := hide (C0.out.only (Below.only hb1 (fun _ => False)) (fun q hq => ⟨by rcases HCL.out q hq with e | e <;> rw [e]; exact hs0.2; exact hs0.1, fun f => f⟩))
    have HB1 : Hid (Below WW.heap.size WW w1) := hide (((⟨rfl, rfl, rfl, rfl⟩ : Alike WW WW.drew).below _).trans hb1)
    have HP := hide (putYesE w1 t T L h1.tree (kOf x n) 0 () HG.out (by omega))
    have H1 := hide h1
    refine hK _ _ HC1.out ?_
    clear hK K hb1 h1
    refine wpAnyJ_writer (i := 8) rfl (by kernel_rfl) (fun K hK => ?_)
    go_simp
    refine HP.out.mono ?_
    rintro e w2 ⟨rfl, h2⟩
    have hO : Only (Ftp t T) w1 w2 := by obtain ⟨_, _, o, _⟩ := h2; exact o
    have hBt : ¬ Ftp t T B := HBT.out
    have hC2 := HC1.out.only hO (fun q hq => ⟨by have := HB1.out.size; rcases HCL.out q hq with e | e <;> rw [e] <;> omega, by rcases HCL.out q hq with e | e <;> rw [e]; exact H1.out.out; exact hBt⟩)
    refine hK _ _ hC2 ?_
    clear hK K hC2 hO
    refine wpAnyJ_done (by kernel_rfl) ?_
    have H2 := hide (H1.out.tree' h2)
    obtain ⟨T2, k2, _, _⟩ := H2.out
    obtain ⟨_, _, _, C3, CF⟩ := k2.cells
    clear k2 h2
    go_wp2
    go_end0
    refine ⟨rfl, RTurned.left (hB.trans ((HWW.out.below _).trans (HB1.out.mono (by rw [HWW.out.heap]; exact hB.size)))) (H2.out.trans fun T' h' => ?_)⟩
    have := h'.count (dn + 1)
    simpa using this

/-- The runs' facts that calls lean on. -/
structure Fine (pg : Nat) (ds : List Nat) (dn : Nat) (L : RL) : Prop where
  pos : 1 ≤ pg
  most : pg ≤ 4096
  good : Good pg L
  len : L.length ≤ 100000
  dn : dn ≤ 1000000000
  ds : ds.length ≤ 1000000000
theorem Fine.key {pg : Nat} {ds : List Nat} {dn : Nat} {L : RL} (h : Fine pg ds dn L) {i : It Unit} (hi : i ∈ L) : 0 ≤ i.1 ∧ i.1 < 1000000000 ∧ 1 ≤ rN i.1 ∧ rA i.1 + rN i.1 ≤ 4096 := by
  have h1 := h.good.ran i hi
  have h2 := h.most
  have h3 := rA_bd i.1
  have h4 := k_r i.1
  unfold kOf at h4
  omega

end Go.Proofs.YtgdliebllmgibaaDoor

namespace Go.Proofs.YtgdliebllmgibaaDoor
open Go.RowKit

end Go.Proofs.YtgdliebllmgibaaDoor

namespace Go.Proofs.YtgdliebllmgibaaDoor
open Go Go.RowKit

section
variable {F : Fence} {n : Nat} {P : Program} {Q : Exit → Act → World → Prop}

/-- As SeqB; the body may say that it is enough. -/
def SeqC {α : Type} (F : Fence) (n : Nat) (P : Program) (g : Nat) (lb : Array Value) (encs : α → Array Value) (A : Nat) (xs : List α) (w : World) : Prop :=
  ∀ (l : Nat) (J : List α → World → Prop) (Jx : World → Prop) (W : World), Below w.heap.size w W → (∀ s X Y, J s X → Below W.heap.size X Y → J s Y) → (∀ X Y, Jx X → Below W.heap.size X Y → Jx Y) →
    (∀ pre x W1, J pre W1 → W.heap.size ≤ W1.heap.size → (pre ++ [x]) <+: xs → YieldAt F (n - 1) P l (encs x) W1 fun e W' =>
      Only (fun k => A ≤ k ∧ k < W.heap.size) W1 W' ∧ ((e = .returned (.bool true) ∧ J (pre ++ [x]) W') ∨ (e = .returned (.bool false) ∧ Jx W'))) →
    J [] W →
    CallsIn F n P g (#[.func (.yield l) #[] #[]] ++ lb) W fun e W' => (∃ v, e = .returned v) ∧ (J xs W' ∨ Jx W')

/-- How a body may be left. -/
def postC (I St : World → Prop) : Exit → World → Prop
  | .normal, W' => I W'
  | .ret, W' => St W'
  | _, _ => False

theorem wpIn_rangeC {α : Type} {g : Operand} {s t : Tmp} {assign body : Code} {a : Act} {w : World}
    (hro : F.round = none) (h1 : 1 ≤ n) {gf : Nat} {lb : Array Value} (hg : a.eval g = .func (.func gf) #[] lb) (hFg : F.fn gf) (eg : ∀ args w, (callFunc gf args).run P w = .ok (.enter gf args) w)
    (cs : α → Array Value) (T : TypeId) {A : Nat} {xs : List α} {w0 : World} (hseq : SeqC F (n - 1) P gf lb (fun x => #[.agg (cs x)]) A xs w0) (hb0 : Below w0.heap.size w0 w) (hA : A ≤ w.heap.size)
    (I : List α → World → Prop) (St : World → Prop) (hI : ∀ s X Y, I s X → Below w.heap.size X Y → I s Y) (hSt : ∀ X Y, St X → Below w.heap.size X Y → St Y) (h0 : I [] w)
    (hassign : ∀ (l : Nat) (x : α) (W : World) (K : Act → World → Prop), K { tmps := (a.tmps.setIfInBounds s (.agg (cs x))).setIfInBounds t (.pointer (some ⟨W.heap.size, 0, none⟩)), defers := [] } (W.alloc (.cells (cs x) T)) →
      assign.wpIn (F.inRound l) (n - 1 - 1) P (Exit.then K (fun _ _ _ => False)) { tmps := a.tmps.setIfInBounds s (.agg (cs x)), defers := [] } W)
    (hbody : ∀ (l : Nat) (pre : List α) (x : α) (b : Nat) (V : World), w.heap.size + 2 ≤ b → b < V.heap.size → I pre V → V.heap[b]? = some (.cells (cs x) T (0, 0)) → (pre ++ [x]) <+: xs →
      body.wpIn (F.inRound l) (n - 1 - 1) P (fun e _ W' => Only (fun k => A ≤ k ∧ k < w.heap.size) V W' ∧ postC (I (pre ++ [x])) St e W') { tmps := (a.tmps.setIfInBounds s (.agg (cs x))).setIfInBounds t (.pointer (some ⟨b, 0, none⟩)), defers := [] } V)
    (hdone : ∀ (D : Nat) (W : World), w.heap.size ≤ D → I xs W → W.heap[D]? = some (.deferred (some [])) → Q .normal { a with defers := { target := .collected D, args := #[] } :: a.defers } W)
    (hstop : ∀ (D : Nat) (W : World), w.heap.size ≤ D → St W → W.heap[D]? = some (.deferred (some [])) → Code.ret.wpIn F n P Q { a with defers := { target := .collected D, args := #[] } :: a.defers } W) :
    (Code.rangeFunc g #[s] assign body).wpIn F n P Q a w := by
  refine wpIn_rangeFunc ?_
  intro fn hfn
  rw [hro]
  obtain ⟨rec, hrec⟩ : ∃ rec : LoopState → Option Code → Loop, rec = fun st pe => { state := st, pending := pe, fn, tmps := a.tmps, params := #[s], assign, body, defers := w.heap.size } := ⟨_, rfl⟩
  obtain ⟨W1, hW1⟩ : ∃ W1, (w.alloc (.deferred (some []))).alloc (.loop (rec .ready none)) = W1 := ⟨_, rfl⟩
  have hs1 : W1.heap.size = w.heap.size + 2 := by rw [← hW1]; simp
  have hL1 : W1.heap[w.heap.size + 1]? = some (.loop (rec .ready none)) := by
    rw [← hW1]; have := World.alloc_heap_new (w.alloc (.deferred (some []))) (.loop (rec .ready none)); rwa [World.size_alloc] at this
  have hK1 : W1.heap[w.heap.size]? = some (.deferred (some [])) := by
    rw [← hW1]; exact (Below.heap_alloc _ _ _ (by simp)).trans (World.alloc_heap_new w _)
  have hbw : Below w.heap.size w W1 := by rw [← hW1]; exact ((Below.refl _ w).alloc (Nat.le_refl _) _).alloc (by simp) _
  have hI1 : I [] W1 := hI _ _ _ h0 hbw
  have hb1 : Below w0.heap.size w0 W1 := hb0.trans (hbw.mono hb0.size)
  refine ⟨w.heap.size + 1, [{ target := .collected w.heap.size, args := #[] }], W1, { target := .fn (.func gf) lb, args := #[.func (.yield (w.heap.size + 1)) #[] #[]] }, W1, gf,
    #[.func (.yield (w.heap.size + 1)) #[] #[]] ++ lb, W1, ?_, ?_, ?_, ?_, fun _ => h1, ?_⟩
  · rw [← hW1, hrec]; exact run_enterLoop_outer _ _ _ _ _
  · simp only [resolve, hg]
    simp [go_sem]
  · intro f' hf'; simp [Target.leads] at hf'; subst hf'; exact hFg
  · simp [invoke, go_sem, eg]
  · refine (hseq (w.heap.size + 1)
      (fun pre W => I pre W ∧ W.heap[w.heap.size + 1]? = some (.loop (rec .ready none)) ∧ W.heap[w.heap.size]? = some (.deferred (some [])))
      (fun W => St W ∧ W.heap[w.heap.size + 1]? = some (.loop (rec .done (some .ret))) ∧ W.heap[w.heap.size]? = some (.deferred (some [])))
      W1 hb1
      (fun s X Y hs hb => ⟨hI s X Y hs.1 (hb.mono (by omega)), (hb.block _ (by omega)).trans hs.2.1, (hb.block _ (by omega)).trans hs.2.2⟩)
      (fun X Y hs hb => ⟨hSt X Y hs.1 (hb.mono (by omega)), (hb.block _ (by omega)).trans hs.2.1, (hb.block _ (by omega)).trans hs.2.2⟩)
      ?_ ⟨hI1, hL1, hK1⟩).mono ?_
    · rintro pre x W ⟨hi, hl, hk⟩ hsz hpre
      have hlt : w.heap.size + 1 < W.heap.size := (Array.getElem?_eq_some_iff.1 hl).1
      have hy := run_yield (P := P) (args := #[.agg (cs x)]) hl (by rw [hrec]; rfl)
      rw [hrec] at hy
      have hba : Below W.heap.size W (W.alloc (.cells (cs x) T)) := (Below.refl _ W).alloc (Nat.le_refl _) _
      have hgl : (W.alloc (.cells (cs x) T)).heap[w.heap.size + 1]? = some (.loop (rec .ready none)) := (hba.block _ hlt).trans hl
      have hgk : (W.alloc (.cells (cs x) T)).heap[w.heap.size]? = some (.deferred (some [])) := (hba.block _ (by omega)).trans hk
      have hgb : (W.alloc (.cells (cs x) T)).heap[W.heap.size]? = some (.cells (cs x) T (0, 0)) := World.alloc_heap_new W _
      refine ⟨fn, a.tmps.setIfInBounds s (.agg (cs x)), assign, body, by simpa using hy, roundIn_of_wpIn hfn (hassign _ x W _ ⟨_, run_beginRound hgl (by rw [hrec]), ?_⟩)⟩
      obtain ⟨V, hV⟩ : ∃ V, (W.alloc (.cells (cs x) T)).putObj (w.heap.size + 1) (.loop { rec .ready none with state := .busy }) = V := ⟨_, rfl⟩
      rw [hV]
      have hl2 : V.heap[w.heap.size + 1]? = some (.loop { rec .ready none with state := .busy }) := by rw [← hV]; exact World.putObj_heap_same (by simp; omega)
      have hk2 : V.heap[w.heap.size]? = some (.deferred (some [])) := by rw [← hV]; exact (World.putObj_heap_other (by omega)).trans hgk
      have hb2 : V.heap[W.heap.size]? = some (.cells (cs x) T (0, 0)) := by rw [← hV]; exact (World.putObj_heap_other (by omega)).trans hgb
      have z2 : V.heap.size = W.heap.size + 1 := by rw [← hV]; simp
      have hWV : Below w.heap.size W V := by rw [← hV]; exact (hba.mono (by omega)).trans (Below.putObj _ _ (by omega))
      have hWV' : ∀ k, k < W.heap.size → k ≠ w.heap.size + 1 → V.heap[k]? = W.heap[k]? := fun k hk hn => by rw [← hV]; exact (World.putObj_heap_other hn).trans (hba.block k hk)
      refine wpIn_mono (hbody _ pre x W.heap.size V (by omega) (by omega) (hI _ _ _ hi hWV) hb2 hpre) ?_
      rintro e a3 W3 ⟨ho3, hi3⟩
      have hl3 : W3.heap[w.heap.size + 1]? = some (.loop { rec .ready none with state := .busy }) := (ho3.block _ (by omega) (by omega)).trans hl2
      have hk3 : W3.heap[w.heap.size]? = some (.deferred (some [])) := (ho3.block _ (by omega) (by omega)).trans hk2
      have hlt3 := (Array.getElem?_eq_some_iff.1 hl3).1
      cases e with
      | normal =>
        have hr := run_endRound (P := P) none hl3
        refine ⟨_, _, hr, ?_, .inl ⟨rfl, ⟨hI _ _ _ hi3 (Below.putObj W3 _ (by omega)), ?_, (World.putObj_heap_other (by omega)).trans hk3⟩⟩⟩
        · refine ⟨ho3.os.trans hWV.os, ho3.tape.trans hWV.tape, ho3.output.trans hWV.output, ?_, fun k hk hn => ?_⟩
          · have := ho3.size; simp; omega
          · by_cases hkk : k = w.heap.size + 1
            · subst hkk; rw [World.putObj_heap_same hlt3, hl, hrec]; rfl
            · rw [World.putObj_heap_other hkk, ho3.block k (by omega) (by omega), hWV' k hk hkk]
        · rw [World.putObj_heap_same hlt3, hrec]; rfl
      | ret =>
        have hr := run_endRound (P := P) (some .ret) hl3
        refine ⟨_, _, hr, ?_, .inr ⟨rfl, hSt _ _ hi3 (Below.putObj W3 _ (by omega)), ?_, (World.putObj_heap_other (by omega)).trans hk3⟩⟩
        · refine ⟨ho3.os.trans hWV.os, ho3.tape.trans hWV.tape, ho3.output.trans hWV.output, ?_, fun k hk hn => ?_⟩
          · have := ho3.size; simp; omega
          · by_cases hkk : k = w.heap.size + 1
            · exact absurd ⟨by omega, by omega⟩ hn
            · rw [World.putObj_heap_other hkk, ho3.block k (by omega) (by omega), hWV' k hk hkk]
        · rw [World.putObj_heap_same hlt3, hrec]; rfl
      | exit id => exact hi3.elim
      | goto t => exact hi3.elim
      | panic ch => exact hi3.elim
      | outgrown => exact hi3.elim
    · rintro e W2 ⟨⟨v, rfl⟩, ⟨hi, hl, hk⟩ | ⟨hi, hl, hk⟩⟩
      · exact ⟨none, _, by have := run_endLoop (P := P) hl (by rw [hrec]; simp); rw [hrec] at this; exact this, hdone _ _ (Nat.le_refl _) (hI _ _ _ hi (Below.putObj W2 _ (by omega))) ((World.putObj_heap_other (by omega)).trans hk)⟩
      · exact ⟨some .ret, _, by have := run_endLoop (P := P) hl (by rw [hrec]; simp); rw [hrec] at this; exact this, hstop _ _ (Nat.le_refl _) (hSt _ _ hi (Below.putObj W2 _ (by omega))) ((World.putObj_heap_other (by omega)).trans hk)⟩
end
end Go.Proofs.YtgdliebllmgibaaDoor

namespace Go.Proofs.YtgdliebllmgibaaDoor
open Go.RowKit

attribute [local go_sem] Oper.semAt_some

def runVal (k : Int) : Array Value := #[.int .i64 (rA k), .int .i64 (rN k)]

/-- How many pages are free. -/
def totL (L : RL) : Int := (L.map fun i => rN i.1).sum
theorem tot_bd {pg : Nat} {ds : List Nat} {dn : Nat} {L : RL} (hf : Fine pg ds dn L) : ∀ M : List Int, M <+: L.map (·.1) → 0 ≤ (M.map rN).sum ∧ (M.map rN).sum ≤ 4096 * M.length := by
  intro M hM
  have hk : ∀ k ∈ M, 0 ≤ rN k ∧ rN k ≤ 4096 := fun k hk => by
    obtain ⟨i, hi, rfl⟩ := List.mem_map.1 (hM.subset hk)
    have := hf.key hi; have := rA_bd i.1; omega
  clear hM
  induction M with
  | nil => simp
  | cons k M ih =>
    have h1 := ih (fun x hx => hk x (by simp [hx]))
    have h2 := hk k (by simp)
    simp only [List.map_cons, List.sum_cons, List.length_cons]
    omega

end Go.Proofs.YtgdliebllmgibaaDoor

namespace Go.Proofs.YtgdliebllmgibaaDoor
open Go Go.RowKit

section
variable {F : Fence} {n : Nat} {P : Program} {Q : Exit → Act → World → Prop}

/-- An iterator that tells xs, each x in turn, and turns nothing that is not its own; a body, whose own blocks may grow, turns no others. -/
def SeqR {α : Type} (F : Fence) (n : Nat) (P : Program) (g : Nat) (lb : Array Value) (encs : α → Array Value) (xs : List α) (w : World) : Prop :=
  ∀ (l : Nat) (J : List α → Res) (Jx : Res) (W : World) (G0 : Nat → Prop), Below w.heap.size w W → (∀ s, Loc (J s)) → Loc Jx →
    (∀ pre x W1 G1, J pre W1 G1 → (pre ++ [x]) <+: xs → YieldAt F (n - 1) P l (encs x) W1 fun e W' =>
      ∃ G2, Only G1 W1 W' ∧ (∀ y, G2 y → G1 y ∨ W1.heap.size ≤ y) ∧ ((e = .returned (.bool true) ∧ J (pre ++ [x]) W' G2) ∨ (e = .returned (.bool false) ∧ Jx W' G2))) →
    J [] W G0 →
    CallsIn F n P g (#[.func (.yield l) #[] #[]] ++ lb) W fun e W' => (∃ v, e = .returned v) ∧ ∃ G2, Only G0 W W' ∧ (∀ y, G2 y → G0 y ∨ W.heap.size ≤ y) ∧ (J xs W' G2 ∨ Jx W' G2)

/-- How a body may be left. -/
def postR (I St : Res) : Exit → World → (Nat → Prop) → Prop
  | .normal, W', G => I W' G
  | .ret, W', G => St W' G
  | _, _, _ => False

/-- How a body ends: its blocks may grow. -/
def endR (G1 : Nat → Prop) (V : World) (I St : Res) (e : Exit) (W' : World) : Prop := ∃ G2, Only G1 V W' ∧ (∀ y, G2 y → G1 y ∨ V.heap.size ≤ y) ∧ postR I St e W' G2
theorem endR.mk {G1 : Nat → Prop} {V : World} {I St : Res} {e : Exit} {W' : World} (G2 : Nat → Prop) (h1 : Only G1 V W') (h2 : ∀ y, G2 y → G1 y ∨ V.heap.size ≤ y) (h3 : postR I St e W' G2) : endR G1 V I St e W' := ⟨G2, h1, h2, h3⟩

def BK (l D : Nat) (r : Loop) : Res := fun W G => W.heap[l]? = some (.loop r) ∧ W.heap[D]? = some (.deferred (some [])) ∧ ∀ x, G x ↔ x = l ∨ x = D
theorem Loc.bk {l D : Nat} {r : Loop} : Loc (BK l D r) :=
  ⟨fun ⟨h1, h2, h3⟩ o hn => ⟨(o.block l (Array.getElem?_eq_some_iff.1 h1).1 (hn l ((h3 l).2 (.inl rfl)))).trans h1, (o.block D (Array.getElem?_eq_some_iff.1 h2).1 (hn D ((h3 D).2 (.inr rfl)))).trans h2, h3⟩,
   fun ⟨h1, h2, h3⟩ hx => by rcases (h3 _).1 hx with rfl | rfl; exact (Array.getElem?_eq_some_iff.1 h1).1; exact (Array.getElem?_eq_some_iff.1 h2).1⟩

theorem Only.putObj {M : Nat → Prop} (W : World) {l : Nat} (o : Obj) (hl : M l) : Only M W (W.putObj l o) :=
  ⟨rfl, rfl, rfl, by simp, fun k _ hn => World.putObj_heap_other (fun e => hn (e ▸ hl))⟩

theorem wpIn_rangeR {α : Type} {g : Operand} {s t : Tmp} {assign body : Code} {a : Act} {w : World}
    (hro : F.round = none) (h1 : 1 ≤ n) {gf : Nat} {lb : Array Value} (hg : a.eval g = .func (.func gf) #[] lb) (hFg : F.fn gf) (eg : ∀ args w, (callFunc gf args).run P w = .ok (.enter gf args) w)
    (cs : α → Array Value) (T : TypeId) {xs : List α} {w0 : World} (hseq : SeqR F (n - 1) P gf lb (fun x => #[.agg (cs x)]) xs w0) (hb0 : Below w0.heap.size w0 w)
    (I : List α → Res) (St : Res) (hI : ∀ s, Loc (I s)) (hSt : Loc St) {G0 : Nat → Prop} (h0 : I [] w G0)
    (hassign : ∀ (l : Nat) (x : α) (W : World) (K : Act → World → Prop), K { tmps := (a.tmps.setIfInBounds s (.agg (cs x))).setIfInBounds t (.pointer (some ⟨W.heap.size, 0, none⟩)), defers := [] } (W.alloc (.cells (cs x) T)) →
      assign.wpIn (F.inRound l) (n - 1 - 1) P (Exit.then K (fun _ _ _ => False)) { tmps := a.tmps.setIfInBounds s (.agg (cs x)), defers := [] } W)
    (hbody : ∀ (l : Nat) (pre : List α) (x : α) (b : Nat) (V : World) (G1 : Nat → Prop), w.heap.size ≤ b → b < V.heap.size → ¬ G1 b → I pre V G1 → V.heap[b]? = some (.cells (cs x) T (0, 0)) → (pre ++ [x]) <+: xs →
      body.wpIn (F.inRound l) (n - 1 - 1) P (fun e _ W' => endR G1 V (I (pre ++ [x])) St e W') { tmps := (a.tmps.setIfInBounds s (.agg (cs x))).setIfInBounds t (.pointer (some ⟨b, 0, none⟩)), defers := [] } V)
    (hdone : ∀ (D : Nat) (W : World) (G : Nat → Prop), w.heap.size ≤ D → ¬ G D → I xs W G → Only G0 w W → (∀ y, G y → G0 y ∨ w.heap.size ≤ y) → W.heap[D]? = some (.deferred (some [])) → Q .normal { a with defers := { target := .collected D, args := #[] } :: a.defers } W)
    (hstop : ∀ (D : Nat) (W : World) (G : Nat → Prop), w.heap.size ≤ D → ¬ G D → St W G → Only G0 w W → (∀ y, G y → G0 y ∨ w.heap.size ≤ y) → W.heap[D]? = some (.deferred (some [])) → Code.ret.wpIn F n P Q { a with defers := { target := .collected D, args := #[] } :: a.defers } W) :
    (Code.rangeFunc g #[s] assign body).wpIn F n P Q a w := by
  refine wpIn_rangeFunc ?_
  intro fn hfn
  rw [hro]
  obtain ⟨rec, hrec⟩ : ∃ rec : LoopState → Option Code → Loop, rec = fun st pe => { state := st, pending := pe, fn, tmps := a.tmps, params := #[s], assign, body, defers := w.heap.size } := ⟨_, rfl⟩
  obtain ⟨W1, hW1⟩ : ∃ W1, (w.alloc (.deferred (some []))).alloc (.loop (rec .ready none)) = W1 := ⟨_, rfl⟩
  have hs1 : W1.heap.size = w.heap.size + 2 := by rw [← hW1]; simp
  have hL1 : W1.heap[w.heap.size + 1]? = some (.loop (rec .ready none)) := by
    rw [← hW1]; have := World.alloc_heap_new (w.alloc (.deferred (some []))) (.loop (rec .ready none)); rwa [World.size_alloc] at this
  have hK1 : W1.heap[w.heap.size]? = some (.deferred (some [])) := by
    rw [← hW1]; exact (Below.heap_alloc _ _ _ (by simp)).trans (World.alloc_heap_new w _)
  have hbw : Below w.heap.size w W1 := by rw [← hW1]; exact ((Below.refl _ w).alloc (Nat.le_refl _) _).alloc (by simp) _
  have hI1 : I [] W1 G0 := (hI []).kept h0 (Below.only hbw (fun _ => False)) (fun _ _ h => h)
  have hG0 : ∀ x, G0 x → x < w.heap.size := fun x hx => (hI []).lt h0 hx
  have hb1 : Below w0.heap.size w0 W1 := hb0.trans (hbw.mono hb0.size)
  refine ⟨w.heap.size + 1, [{ target := .collected w.heap.size, args := #[] }], W1, { target := .fn (.func gf) lb, args := #[.func (.yield (w.heap.size + 1)) #[] #[]] }, W1, gf,
    #[.func (.yield (w.heap.size + 1)) #[] #[]] ++ lb, W1, ?_, ?_, ?_, ?_, fun _ => h1, ?_⟩
  · rw [← hW1, hrec]; exact run_enterLoop_outer _ _ _ _ _
  · simp only [resolve, hg]
    simp [go_sem]
  · intro f' hf'; simp [Target.leads] at hf'; subst hf'; exact hFg
  · simp [invoke, go_sem, eg]
  · refine (hseq (w.heap.size + 1)
      (fun pre => Sep (I pre) (BK (w.heap.size + 1) w.heap.size (rec .ready none)))
      (Sep St (BK (w.heap.size + 1) w.heap.size (rec .done (some .ret))))
      W1 (fun x => G0 x ∨ (x = w.heap.size + 1 ∨ x = w.heap.size)) hb1 (fun s => (hI s).sep Loc.bk) (hSt.sep Loc.bk) ?_
      ⟨G0, fun x => x = w.heap.size + 1 ∨ x = w.heap.size, hI1, ⟨hL1, hK1, fun _ => Iff.rfl⟩, fun x hx h => by have := hG0 x hx; omega, fun _ => Iff.rfl⟩).mono ?_
    · rintro pre x W GG ⟨G1, GB, hi, ⟨hl, hk, hgb⟩, hdj, hgg⟩ hpre
      have hlt : w.heap.size + 1 < W.heap.size := (Array.getElem?_eq_some_iff.1 hl).1
      have hy := run_yield (P := P) (args := #[.agg (cs x)]) hl (by rw [hrec]; rfl)
      rw [hrec] at hy
      have hba : Below W.heap.size W (W.alloc (.cells (cs x) T)) := (Below.refl _ W).alloc (Nat.le_refl _) _
      have hgl : (W.alloc (.cells (cs x) T)).heap[w.heap.size + 1]? = some (.loop (rec .ready none)) := (hba.block _ hlt).trans hl
      have hgk : (W.alloc (.cells (cs x) T)).heap[w.heap.size]? = some (.deferred (some [])) := (hba.block _ (by omega)).trans hk
      have hgB : (W.alloc (.cells (cs x) T)).heap[W.heap.size]? = some (.cells (cs x) T (0, 0)) := World.alloc_heap_new W _
      refine ⟨fn, a.tmps.setIfInBounds s (.agg (cs x)), assign, body, by simpa using hy, roundIn_of_wpIn hfn (hassign _ x W _ ⟨_, run_beginRound hgl (by rw [hrec]), ?_⟩)⟩
      obtain ⟨V, hV⟩ : ∃ V, (W.alloc (.cells (cs x) T)).putObj (w.heap.size + 1) (.loop { rec .ready none with state := .busy }) = V := ⟨_, rfl⟩
      rw [hV]
      have hl2 : V.heap[w.heap.size + 1]? = some (.loop { rec .ready none with state := .busy }) := by rw [← hV]; exact World.putObj_heap_same (by simp; omega)
      have hk2 : V.heap[w.heap.size]? = some (.deferred (some [])) := by rw [← hV]; exact (World.putObj_heap_other (by omega)).trans hgk
      have hb2 : V.heap[W.heap.size]? = some (.cells (cs x) T (0, 0)) := by rw [← hV]; exact (World.putObj_heap_other (by omega)).trans hgB
      have z2 : V.heap.size = W.heap.size + 1 := by rw [← hV]; simp
      have nl : ¬ G1 (w.heap.size + 1) := fun h => hdj _ h ((hgb _).2 (.inl rfl))
      have nd : ¬ G1 w.heap.size := fun h => hdj _ h ((hgb _).2 (.inr rfl))
      have hWV : Only (fun k => k = w.heap.size + 1) W V := by rw [← hV]; exact (Below.only hba _).trans (Only.putObj _ _ rfl)
      have hiV : I pre V G1 := (hI pre).kept hi hWV (fun y hy e => nl (e ▸ hy))
      refine wpIn_mono (hbody _ pre x W.heap.size V G1 (by omega) (by omega) (fun h => by have := (hI pre).lt hi h; omega) hiV hb2 hpre) ?_
      rintro e a3 W3 ⟨G2, ho3, hg3, hi3⟩
      have hl3 : W3.heap[w.heap.size + 1]? = some (.loop { rec .ready none with state := .busy }) := (ho3.block _ (by omega) nl).trans hl2
      have hk3 : W3.heap[w.heap.size]? = some (.deferred (some [])) := (ho3.block _ (by omega) nd).trans hk2
      have hlt3 := (Array.getElem?_eq_some_iff.1 hl3).1
      have nl2 : ¬ G2 (w.heap.size + 1) := fun h => by rcases hg3 _ h with q | q; exact nl q; omega
      have nd2 : ¬ G2 w.heap.size := fun h => by rcases hg3 _ h with q | q; exact nd q; omega
      have hO : ∀ o, Only GG W (W3.putObj (w.heap.size + 1) o) := fun o =>
        ((hWV.mono (fun k _ e => (hgg k).2 (.inr ((hgb k).2 (.inl e))))).thenNew (ho3.mono (fun k _ h => (hgg k).2 (.inl h))) (fun _ _ h => h)).trans (Only.putObj _ _ ((hgg _).2 (.inr ((hgb _).2 (.inl rfl)))))
      have hnew : ∀ y, (G2 y ∨ GB y) → GG y ∨ W.heap.size ≤ y := fun y h => by
        rcases h with h | h
        · rcases hg3 y h with q | q
          · exact .inl ((hgg y).2 (.inl q))
          · exact .inr (by omega)
        · exact .inl ((hgg y).2 (.inr h))
      have hkp : ∀ o, Only (fun k => k = w.heap.size + 1) W3 (W3.putObj (w.heap.size + 1) o) := fun o => Only.putObj _ _ rfl
      cases e with
      | normal =>
        have hr := run_endRound (P := P) none hl3
        refine ⟨_, _, hr, fun y => G2 y ∨ GB y, hO _, hnew, .inl ⟨rfl, G2, GB, (hI _).kept hi3 (hkp _) (fun y hy e => nl2 (e ▸ hy)), ⟨?_, (World.putObj_heap_other (by omega)).trans hk3, hgb⟩, fun y hy h => ?_, fun _ => Iff.rfl⟩⟩
        · rw [World.putObj_heap_same hlt3, hrec]; rfl
        · rcases (hgb y).1 h with rfl | rfl
          · exact nl2 hy
          · exact nd2 hy
      | ret =>
        have hr := run_endRound (P := P) (some .ret) hl3
        refine ⟨_, _, hr, fun y => G2 y ∨ GB y, hO _, hnew, .inr ⟨rfl, G2, GB, hSt.kept hi3 (hkp _) (fun y hy e => nl2 (e ▸ hy)), ⟨?_, (World.putObj_heap_other (by omega)).trans hk3, hgb⟩, fun y hy h => ?_, fun _ => Iff.rfl⟩⟩
        · rw [World.putObj_heap_same hlt3, hrec]; rfl
        · rcases (hgb y).1 h with rfl | rfl
          · exact nl2 hy
          · exact nd2 hy
      | exit id => exact hi3.elim
      | goto t => exact hi3.elim
      | panic ch => exact hi3.elim
      | outgrown => exact hi3.elim
    · rintro e W2 ⟨⟨v, rfl⟩, GG, ho, hn, hh⟩
      have hOw : ∀ o, Only G0 w (W2.putObj (w.heap.size + 1) o) := fun o => by
        refine ⟨ho.os.trans hbw.os, ho.tape.trans hbw.tape, ho.output.trans hbw.output, by have := ho.size; simp; omega, fun k hk hng => ?_⟩
        rw [World.putObj_heap_other (by omega), ho.block k (by omega) (fun h => by rcases h with h | h; exact hng h; omega), hbw.block k hk]
      rcases hh with ⟨G1, GB, hi, ⟨hl, hk, hgb⟩, hdj, hgg⟩ | ⟨G1, GB, hi, ⟨hl, hk, hgb⟩, hdj, hgg⟩
      · have nl : ¬ G1 (w.heap.size + 1) := fun h => hdj _ h ((hgb _).2 (.inl rfl))
        have nd : ¬ G1 w.heap.size := fun h => hdj _ h ((hgb _).2 (.inr rfl))
        refine ⟨none, _, by have := run_endLoop (P := P) hl (by rw [hrec]; simp); rw [hrec] at this; exact this, hdone _ _ G1 (Nat.le_refl _) nd ((hI _).kept hi (Only.putObj (M := fun k => k = w.heap.size + 1) _ _ rfl) (fun y hy e => nl (e ▸ hy))) (hOw _) (fun y hy => ?_) ((World.putObj_heap_other (by omega)).trans hk)⟩
        rcases hn y ((hgg y).2 (.inl hy)) with (q | q) | q
        · exact .inl q
        · exact .inr (by omega)
        · exact .inr (by omega)
      · have nl : ¬ G1 (w.heap.size + 1) := fun h => hdj _ h ((hgb _).2 (.inl rfl))
        have nd : ¬ G1 w.heap.size := fun h => hdj _ h ((hgb _).2 (.inr rfl))
        refine ⟨some .ret, _, by have := run_endLoop (P := P) hl (by rw [hrec]; simp); rw [hrec] at this; exact this, hstop _ _ G1 (Nat.le_refl _) nd (hSt.kept hi (Only.putObj (M := fun k => k = w.heap.size + 1) _ _ rfl) (fun y hy e => nl (e ▸ hy))) (hOw _) (fun y hy => ?_) ((World.putObj_heap_other (by omega)).trans hk)⟩
        rcases hn y ((hgg y).2 (.inl hy)) with (q | q) | q
        · exact .inl q
        · exact .inr (by omega)
        · exact .inr (by omega)
/-- An end that is no panic. -/
def noPanic (Q : Exit → Act → World → Prop) : Exit → Act → World → Prop := fun e a w => (∀ c, e ≠ .panic c) ∧ Q e a w
theorem wpIn_noPanic {c : Code} {a : Act} {w : World} (h : c.wpIn F n P (noPanic Q) a w) : c.wpIn F n P Q a w := wpIn_mono h (fun _ _ _ h => h.2)
end
end Go.Proofs.YtgdliebllmgibaaDoor

namespace Go.Proofs.YtgdliebllmgibaaDoor
open Go.RowKit

attribute [local go_sem] Oper.semAt_some

end Go.Proofs.YtgdliebllmgibaaDoor

namespace Go.Proofs.YtgdliebllmgibaaDoor
open Go.RowKit

theorem wpListIn_append_at {F : Fence} {n : Nat} {P : Program} (w : World) {ops : Array Oper} {rest : List Oper} {o : Oper} {a : Act} {Q : Exit → Act → World → Prop}
    (hg : o.guard = none) (s x : Operand) (t : TypeId) (hop : o.op = Op.call { callee := Callee.builtin Builtin.append, args := #[s, x], argTypes := #[t, t] })
    (base : Nat) (e : TypeId) (i : TypeInfo) (z : Value) (size bytes : Nat) (h1 : P.underlying t = some (.slice e)) (h2 : P.info? e = some i) (h3 : i.zero = some z) (h4 : i.size = size) (h5 : i.bytes = bytes) (h6 : z.cells.size = size) (h7 : 0 < size)
    (v : Value) (k : Nat) (xs : List Value) (hs : a.eval s = v) (hown : w.ownsRow base e size v k xs) (ad : Addr) (m c : Nat) (news : List Value) (hx : a.eval x = .slice (some ad) m c) (hn : news.length = m * size)
    (hc : ∀ j u, news[j]? = some u → w.cell? (ad.add j) = some u) (h1c : ∀ u ∈ news, u.oneCell' = true) (b1 : k + m ≤ maxLen) (b2 : (k + m) * bytes ≤ 140737488355328) (b3 : base ≤ w.heap.size)
    (hK : ∀ v' w', w'.ownsRow base e size v' (k + m) (xs ++ news) → w.grownBy w' v.ownBlock → (v'.ownBlock = v.ownBlock ∨ v'.ownBlock = some w.heap.size) → wpListIn F n P ops Q rest (a.put o.dst v') w') :
    wpListIn F n P ops Q (o :: rest) a w := by
  refine wpListIn_plain hg fun K hK' => ?_
  obtain ⟨v', w', hrun, r1, r2, _, r4⟩ := run_append_own_at (P := P) w base t o.type e i z size bytes h1 h2 h3 h4 h5 h6 h7 v k xs hown ad m c news hn hc h1c b1 b2 b3
  unfold Oper.wpIn
  refine ⟨?_, ?_⟩
  · simp [Oper.about, hop, resolve, Target.leads, Sem.run_pure]
  · rw [Oper.semAt_plain F _ _ (by rw [hop]; intro c hc'; cases hc')]
    simp [execOp, hop, resolve, invoke, builtin, hs, hx, hrun, Result.andThen]
    exact hK' _ _ (hK v' w' r1 r2 r4)

attribute [local go_sem] Oper.semAt_some

/-- At B lies a slice, whose row is the call's own. -/
def BoxRow (B : Nat) (T e : TypeId) (base size k : Nat) (xs : List Value) : Res := fun W G => ∃ v, Boxed W B T v ∧ W.ownsRow base e size v k xs ∧ ∀ x, G x ↔ x = B ∨ v.ownBlock = some x
theorem Loc.boxRow {B : Nat} {T e : TypeId} {base size k : Nat} {xs : List Value} : Loc (BoxRow B T e base size k xs) := by
  refine ⟨fun {w w' M G} ⟨v, h1, h2, h3⟩ o hn => ⟨v, (o.block B h1.lt (hn B ((h3 B).2 (.inl rfl)))).trans h1, ⟨h2.1, ?_⟩, h3⟩, fun {w G x} ⟨v, h1, h2, h3⟩ hx => ?_⟩
  · rcases h2.2 with q | ⟨g, cap, cur, rfl, q1, q2, q3⟩
    · exact .inl q
    · exact .inr ⟨g, cap, cur, rfl, q1, (o.block g (Array.getElem?_eq_some_iff.1 q2).1 (hn g ((h3 g).2 (.inr rfl)))).trans q2, q3⟩
  · rcases (h3 x).1 hx with rfl | q
    · exact h1.lt
    · exact (h2.lt x q).2
/-- Behind an append, and the store of what came out. -/
theorem BoxRow.appended {B : Nat} {T e : TypeId} {base size k m : Nat} {xs ys : List Value} {W w1 : World} {G : Nat → Prop} {v v' : Value} {tmp : Obj} (h1 : Boxed W B T v) (hte : T ≠ e) (h2 : W.ownsRow base e size v k xs) (h3 : ∀ x, G x ↔ x = B ∨ v.ownBlock = some x)
    (hown : w1.ownsRow base e size v' m ys) (hgrow : (W.alloc tmp).grownBy w1 v.ownBlock) (hat : v'.ownBlock = v.ownBlock ∨ v'.ownBlock = some (W.heap.size + 1)) :
    Boxed w1 B T v ∧ Only G W (w1.setCell ⟨B, 0, none⟩ v') ∧ BoxRow B T e base size m ys (w1.setCell ⟨B, 0, none⟩ v') (fun x => x = B ∨ v'.ownBlock = some x) ∧ ∀ y, (y = B ∨ v'.ownBlock = some y) → G y ∨ W.heap.size ≤ y := by
  have hv1 : Boxed w1 B T v := (h1.alloc tmp).kept hgrow (h1.not_row hte h2)
  have nr := hv1.not_row hte hown
  refine ⟨hv1, ?_, ⟨v', hv1.set v', ?_, fun _ => Iff.rfl⟩, fun y hy => ?_⟩
  · have o1 : Only G W w1 := by
      refine ⟨hgrow.os, hgrow.tape, hgrow.output, by have := hgrow.size; simp at this; omega, fun j hj hn => ?_⟩
      rw [hgrow.block j (by simp; omega) (fun e => hn ((h3 j).2 (.inr e.symm))), Below.heap_alloc _ _ _ hj]
    exact o1.setCell (.inl ((h3 B).2 (.inl rfl))) _
  · refine ⟨hown.1, ?_⟩
    rcases hown.2 with q | ⟨g, cap, cur, rfl, q1, q2, q3⟩
    · exact .inl q
    · exact .inr ⟨g, cap, cur, rfl, q1, (heap_setCell_ne (fun e => nr (by rw [← e]; rfl)) _).trans q2, q3⟩
  · rcases hy with rfl | hy
    · exact .inl ((h3 _).2 (.inl rfl))
    · rcases hat with q | q
      · exact .inl ((h3 y).2 (.inr (by rw [← q]; exact hy)))
      · rw [q] at hy; cases hy; exact .inr (by omega)

def pairsI (l : List (Int × Int)) : List Value := l.flatMap fun p => [.int .i64 p.1, .int .i64 p.2]
theorem pairsI_length (l : List (Int × Int)) : (pairsI l).length = l.length * 2 := by
  induction l with
  | nil => rfl
  | cons p l ih =>
    have e : pairsI (p :: l) = [Value.int .i64 p.1, Value.int .i64 p.2] ++ pairsI l := rfl
    rw [e, List.length_append, ih, List.length_cons]
    simp
    omega
theorem pairsI_get : ∀ (l : List (Int × Int)) (i : Nat), i < l.length → (pairsI l)[i * 2]? = some (.int .i64 (l.getD i (0, 0)).1) ∧ (pairsI l)[i * 2 + 1]? = some (.int .i64 (l.getD i (0, 0)).2)
  | [], i, h => by simp at h
  | p :: l, 0, _ => by simp [pairsI]
  | p :: l, i + 1, h => by
    have ih := pairsI_get l i (by simpa using h)
    have e : pairsI (p :: l) = Value.int .i64 p.1 :: Value.int .i64 p.2 :: pairsI l := rfl
    rw [e, show (i + 1) * 2 = i * 2 + 1 + 1 from by omega, show i * 2 + 1 + 1 + 1 = (i * 2 + 1) + 1 + 1 from rfl, List.getElem?_cons_succ, List.getElem?_cons_succ, List.getElem?_cons_succ, List.getElem?_cons_succ]
    simpa using ih
theorem infoRun : (Tryd.prog.info? 116).map (fun i => (i.zero, i.size, i.bytes)) = some (some (.agg #[.int .i64 0, .int .i64 0]), 2, 16) := by kernel_rfl

end Go.Proofs.YtgdliebllmgibaaDoor
