/- The document's runs, out of which pages are free. The document's runs in memory: which pages are free, the tree, the draws; Total, List. The document's runs: List. The document's runs: what calls turn; add, Shape. The document's runs: best, Find. The document's runs: Take. The document's runs: Put, where it answers an error. -/
import Derived.Test.YthcfmpjmgheieaaRunKeys
import Derived.Test.YthcfmpjmgheieaaDA
import Derived.Laws.AppendOwn
namespace Go.Proofs.Ythcfmpjmgheieaa
open Go.RowKit

/-- One bit more that is not set, at i, behind the runs R. -/
def runStep (R : List (Nat × Nat)) (i : Nat) : List (Nat × Nat) := match R.getLast? with
  | some r => if r.1 + r.2 = i then R.dropLast ++ [(r.1, r.2 + 1)] else R ++ [(i, 1)]
  | none => [(i, 1)]

/-- The runs of the first k bits. -/
def runsN (nf : Nat → Bool) : Nat → List (Nat × Nat)
  | 0 => []
  | k + 1 => if nf k then runsN nf k else runStep (runsN nf k) k

/-- The last run ends where the bits do just if the last bit is not set. -/
def Ends (R : List (Nat × Nat)) (k : Nat) : Prop := ∃ r, R.getLast? = some r ∧ r.1 + r.2 = k

theorem runStep_ends {R : List (Nat × Nat)} {k : Nat} (h : Ends R k) : ∃ R0 r, R = R0 ++ [r] ∧ r.1 + r.2 = k ∧ runStep R k = R0 ++ [(r.1, r.2 + 1)] := by
  obtain ⟨r, hr, he⟩ := h
  have hne : R ≠ [] := by intro e; rw [e] at hr; cases hr
  refine ⟨R.dropLast, r, ?_, he, ?_⟩
  · have := List.dropLast_concat_getLast hne
    rw [List.getLast?_eq_some_getLast hne] at hr
    rw [← this, Option.some.inj hr]
    simp
  · unfold runStep; rw [hr]; simp [he]

theorem runStep_new {R : List (Nat × Nat)} {k : Nat} (h : ¬ Ends R k) : runStep R k = R ++ [(k, 1)] := by
  unfold runStep
  cases hr : R.getLast? with
  | none => rw [List.getLast?_eq_none_iff.1 hr]; rfl
  | some r => simp only []; rw [if_neg (fun e => h ⟨r, hr, e⟩)]

theorem ends_snoc (R : List (Nat × Nat)) (r : Nat × Nat) (k : Nat) : Ends (R ++ [r]) k ↔ r.1 + r.2 = k := by simp [Ends]

theorem runsN_below (nf : Nat → Bool) : ∀ k, ∀ r ∈ runsN nf k, 1 ≤ r.2 ∧ r.1 + r.2 ≤ k
  | 0, r, h => by cases h
  | k + 1, r, h => by
    have ih := runsN_below nf k
    simp only [runsN] at h
    split at h
    · have := ih r h; omega
    · by_cases he : Ends (runsN nf k) k
      · obtain ⟨R0, r0, hR, h0, hs⟩ := runStep_ends he
        rw [hs] at h
        rcases List.mem_append.1 h with h | h
        · have := ih r (by rw [hR]; exact List.mem_append_left _ h); omega
        · simp at h; subst h; simp; omega
      · rw [runStep_new he] at h
        rcases List.mem_append.1 h with h | h
        · have := ih r h; omega
        · simp at h; subst h; simp

theorem runsN_ends (nf : Nat → Bool) (k : Nat) : Ends (runsN nf (k + 1)) (k + 1) ↔ nf k = false := by
  simp only [runsN]
  by_cases hb : nf k = true
  · rw [if_pos hb]
    constructor
    · rintro ⟨r, hr, he⟩
      have := (runsN_below nf k r (List.mem_of_getLast? hr)).2
      omega
    · intro h; rw [h] at hb; cases hb
  · rw [if_neg hb]
    refine ⟨fun _ => by simpa using hb, fun _ => ?_⟩
    by_cases he : Ends (runsN nf k) k
    · obtain ⟨R0, r0, hR, h0, hs⟩ := runStep_ends he
      rw [hs, ends_snoc]; simp; omega
    · rw [runStep_new he, ends_snoc]

/-- Over bits that are set the runs stay. -/
theorem runsN_set (nf : Nat → Bool) (a : Nat) : ∀ n, (∀ i, a ≤ i → i < a + n → nf i = true) → runsN nf (a + n) = runsN nf a
  | 0, _ => rfl
  | n + 1, h => by
    rw [← Nat.add_assoc, runsN, if_pos (h (a + n) (by omega) (by omega)), runsN_set nf a n (fun i h1 h2 => h i h1 (by omega))]

/-- Over bits that are not set, behind one that is (or at the beginning), one run more. -/
theorem runsN_run (nf : Nat → Bool) (a : Nat) (ha : a = 0 ∨ nf (a - 1) = true) : ∀ n, (∀ i, a ≤ i → i < a + (n + 1) → nf i = false) → runsN nf (a + (n + 1)) = runsN nf a ++ [(a, n + 1)]
  | 0, h => by
    have hb := h a (by omega) (by omega)
    rw [runsN, if_neg (by simp [hb]), runStep_new]
    intro he
    cases a with
    | zero => obtain ⟨r, hr, _⟩ := he; simp [runsN] at hr
    | succ a =>
      rcases ha with ha | ha
      · cases ha
      · rw [runsN_ends] at he
        simp only [Nat.add_sub_cancel] at ha
        rw [he] at ha; cases ha
  | n + 1, h => by
    rw [← Nat.add_assoc, runsN, if_neg (by simp [h (a + (n + 1)) (by omega) (by omega)]), runsN_run nf a ha n (fun i h1 h2 => h i h1 (by omega))]
    obtain ⟨R0, r0, hR, h0, hs⟩ := runStep_ends (R := runsN nf a ++ [(a, n + 1)]) (k := a + (n + 1)) ((ends_snoc ..).2 rfl)
    rw [hs]
    obtain ⟨e1, e2⟩ := List.append_inj' hR rfl
    simp at e2
    rw [← e1, ← e2]

theorem runsN_sorted (nf : Nat → Bool) : ∀ k, (runsN nf k).Pairwise fun r s => r.1 + r.2 < s.1
  | 0 => List.Pairwise.nil
  | k + 1 => by
    have ih := runsN_sorted nf k
    simp only [runsN]
    split
    · exact ih
    · by_cases he : Ends (runsN nf k) k
      · obtain ⟨R0, r0, hR, h0, hs⟩ := runStep_ends he
        rw [hs]
        rw [hR, List.pairwise_append] at ih
        rw [List.pairwise_append]
        exact ⟨ih.1, by simp, fun a ha b hb => by simp at hb; subst hb; exact ih.2.2 a ha r0 (by simp)⟩
      · rw [runStep_new he, List.pairwise_append]
        refine ⟨ih, by simp, fun a ha b hb => ?_⟩
        simp at hb; subst hb
        have h1 := (runsN_below nf k a ha).2
        rcases Nat.lt_or_eq_of_le h1 with h2 | h2
        · exact h2
        · exfalso
          -- a run that ends at k is the last one
          obtain ⟨R1, R2, hR⟩ := List.append_of_mem ha
          cases R2 with
          | nil => exact he ⟨a, by rw [hR]; simp, h2⟩
          | cons c R2 =>
            rw [hR, List.pairwise_append] at ih
            have h3 := (List.pairwise_cons.1 ih.2.1).1 c (by simp)
            have h4 := (runsN_below nf k c (by rw [hR]; simp)).2
            omega

/-- A bit is in a run just if it is not set. -/
theorem runsN_mem (nf : Nat → Bool) (i : Nat) : ∀ k, i < k → ((∃ r ∈ runsN nf k, r.1 ≤ i ∧ i < r.1 + r.2) ↔ nf i = false)
  | k + 1, hi => by
    by_cases hk : i < k
    · rw [← runsN_mem nf i k hk]
      simp only [runsN]
      split
      · rfl
      · by_cases he : Ends (runsN nf k) k
        · obtain ⟨R0, r0, hR, h0, hs⟩ := runStep_ends he
          rw [hs, hR]
          constructor
          · rintro ⟨r, hr, h1, h2⟩
            rcases List.mem_append.1 hr with hr | hr
            · exact ⟨r, List.mem_append_left _ hr, h1, h2⟩
            · simp at hr; subst hr; exact ⟨r0, by simp, h1, by simp at h2; omega⟩
          · rintro ⟨r, hr, h1, h2⟩
            rcases List.mem_append.1 hr with hr | hr
            · exact ⟨r, List.mem_append_left _ hr, h1, h2⟩
            · simp at hr; subst hr; exact ⟨(r.1, r.2 + 1), by simp, h1, by simp; omega⟩
        · rw [runStep_new he]
          constructor
          · rintro ⟨r, hr, h1, h2⟩
            rcases List.mem_append.1 hr with hr | hr
            · exact ⟨r, hr, h1, h2⟩
            · simp at hr; subst hr; simp at h1; omega
          · rintro ⟨r, hr, h1, h2⟩
            exact ⟨r, List.mem_append_left _ hr, h1, h2⟩
    · obtain rfl : i = k := by omega
      simp only [runsN]
      by_cases hb : nf i = true
      · rw [if_pos hb]
        constructor
        · rintro ⟨r, hr, h1, h2⟩
          have := (runsN_below nf i r hr).2; omega
        · intro h; rw [h] at hb; cases hb
      · rw [if_neg hb]
        refine ⟨fun _ => by simpa using hb, fun _ => ?_⟩
        by_cases he : Ends (runsN nf i) i
        · obtain ⟨R0, r0, hR, h0, hs⟩ := runStep_ends he
          rw [hs]; exact ⟨(r0.1, r0.2 + 1), by simp, by simp; omega, by simp; omega⟩
        · rw [runStep_new he]; exact ⟨(i, 1), by simp, by simp, by simp⟩

def pairVals (k : IntKind) (l : List (Nat × Nat)) : List Value := l.flatMap fun p => [.int .i64 (p.1 : Int), .int k (p.2 : Int)]
theorem pairVals_length (k : IntKind) (l : List (Nat × Nat)) : (pairVals k l).length = l.length * 2 := by
  induction l with
  | nil => rfl
  | cons p l ih =>
    have e : pairVals k (p :: l) = [Value.int .i64 (p.1 : Int), Value.int k (p.2 : Int)] ++ pairVals k l := rfl
    rw [e, List.length_append, ih, List.length_cons]
    simp
    omega

theorem pairVals_get (k : IntKind) : ∀ (l : List (Nat × Nat)) (i : Nat), i < l.length → (pairVals k l)[2 * i]? = some (.int .i64 ((l.getD i (0, 0)).1 : Int)) ∧ (pairVals k l)[2 * i + 1]? = some (.int k ((l.getD i (0, 0)).2 : Int))
  | [], i, h => by simp at h
  | p :: l, 0, _ => by simp [pairVals]
  | p :: l, i + 1, h => by
    have ih := pairVals_get k l i (by simpa using h)
    have e : pairVals k (p :: l) = Value.int .i64 (p.1 : Int) :: Value.int k (p.2 : Int) :: pairVals k l := rfl
    rw [e, show 2 * (i + 1) = 2 * i + 1 + 1 from by omega, show 2 * i + 1 + 1 + 1 = (2 * i + 1) + 1 + 1 from rfl, List.getElem?_cons_succ, List.getElem?_cons_succ, List.getElem?_cons_succ, List.getElem?_cons_succ]
    simpa using ih

/-- The pairs of l lie where a points. -/
theorem pairVals_snoc (k : IntKind) (l : List (Nat × Nat)) (x y : Nat) : pairVals k (l ++ [(x, y)]) = pairVals k l ++ [.int .i64 (x : Int), .int k (y : Int)] := by simp [pairVals]
theorem pairVals_last (k : IntKind) (l : List (Nat × Nat)) (x y z : Nat) : (pairVals k (l ++ [(x, y)])).set (2 * l.length + 1) (.int k (z : Int)) = pairVals k (l ++ [(x, z)]) := by
  rw [pairVals_snoc, pairVals_snoc, List.set_append_right _ _ (by rw [pairVals_length]; omega), pairVals_length, show 2 * l.length + 1 - l.length * 2 = 1 from by omega]
  rfl

theorem below_app {n₀ : Nat} {w W w3 : World} {tmp : Obj} {v : Value} {t : TypeId} {size k : Nat} {xs : List Value} (hB : Below n₀ w W) (hn : n₀ ≤ w.heap.size) (hrow : W.ownsRow n₀ t size v k xs)
    (hgrow : (W.alloc tmp).grownBy w3 v.ownBlock) : Below n₀ w w3 := by
  refine (hB.alloc (Nat.le_trans hn hB.size) tmp).grown hgrow (by have := hB.size; simp; omega) (fun j ej => ?_)
  rcases hrow.2 with ⟨rfl, _⟩ | ⟨g, cap, cur, rfl, hb, _, _⟩
  · simp [Value.ownBlock] at ej
  · obtain rfl : g = j := by simpa [Value.ownBlock] using ej
    exact hb


/-- Runs as a row of keys. -/
def buildR : List (Nat × Nat) → RL
  | [] => []
  | r :: S => insL (kOf (r.1 : Int) (r.2 : Int)) 0 () (buildR S)
theorem build_mem {S : List (Nat × Nat)} {i : It Unit} : i ∈ buildR S ↔ ∃ r ∈ S, i = (kOf (r.1 : Int) (r.2 : Int), 0, ()) := by
  induction S with
  | nil => simp [buildR]
  | cons r S ih =>
    rw [buildR, insL_mem, ih]
    simp
theorem build_good {pg : Nat} (hq : pg ≤ 4096) : ∀ (S : List (Nat × Nat)), (S.Pairwise fun r s => r.1 + r.2 < s.1) → (∀ r ∈ S, 1 ≤ r.2 ∧ r.1 + r.2 ≤ pg) → Good pg (buildR S)
  | [], _, _ => ⟨List.Pairwise.nil, (fun i hi => absurd hi (by simp [buildR])), (fun i hi => absurd hi (by simp [buildR]))⟩
  | r :: S, h, hb => by
    have ih := build_good hq S (List.pairwise_cons.1 h).2 (fun s hs => hb s (List.mem_cons_of_mem _ hs))
    have hr := hb r (by simp)
    refine ih.ins (by omega) (by omega) (by omega) (by omega) (fun i hi => ?_)
    obtain ⟨s, hs, rfl⟩ := build_mem.1 hi
    have h1 := (List.pairwise_cons.1 h).1 s hs
    have h2 := hb s (List.mem_cons_of_mem _ hs)
    simp only
    rw [rA_k (by omega) (by omega)]
    right; omega
theorem build_fr {pg : Nat} (hq : pg ≤ 4096) {S : List (Nat × Nat)} (hb : ∀ r ∈ S, 1 ≤ r.2 ∧ r.1 + r.2 ≤ pg) (p : Int) : fr (buildR S) p ↔ ∃ r ∈ S, (r.1 : Int) ≤ p ∧ p < (r.1 : Int) + (r.2 : Int) := by
  unfold fr
  constructor
  · rintro ⟨i, hi, h1, h2⟩
    obtain ⟨s, hs, rfl⟩ := build_mem.1 hi
    have := hb s hs
    simp only at h1 h2
    rw [rA_k (by omega) (by omega)] at h1 h2
    rw [rN_k (by omega) (by omega)] at h2
    exact ⟨s, hs, h1, h2⟩
  · rintro ⟨s, hs, h1, h2⟩
    have := hb s hs
    refine ⟨_, build_mem.2 ⟨s, hs, rfl⟩, ?_, ?_⟩
    · simp only; rw [rA_k (by omega) (by omega)]; exact h1
    · simp only; rw [rA_k (by omega) (by omega), rN_k (by omega) (by omega)]; exact h2
/-- Which pages are free, by a row of keys. -/
def FreeIs (pg : Nat) (fb : Nat → Bool) (L : RL) : Prop := ∀ p, p < pg → (fb p = true ↔ fr L (p : Int))
theorem fr_in {pg : Nat} {L : RL} (h : Good pg L) {p : Int} (hp : fr L p) : 0 ≤ p ∧ p < pg := by
  obtain ⟨i, hi, h1, h2⟩ := hp
  have := h.ran i hi; have := rA_bd i.1
  omega
def intP (r : Nat × Nat) : Int × Int := ((r.1 : Int), (r.2 : Int))
theorem scan_is {pg : Nat} (hq : pg ≤ 4096) {fb : Nat → Bool} {L : RL} (h : Good pg L) (hf : FreeIs pg fb L) : (runsN (fun p => !fb p) pg).map intP = runsOf L := by
  have hb := runsN_below (fun p => !fb p) pg
  have hg := build_good hq _ (runsN_sorted (fun p => !fb p) pg) hb
  have hfr : ∀ p, fr (buildR (runsN (fun p => !fb p) pg)) p ↔ fr L p := fun p => by
    rw [build_fr hq hb]
    constructor
    · rintro ⟨r, hr, h1, h2⟩
      have := hb r hr
      obtain ⟨k, rfl⟩ : ∃ k : Nat, p = (k : Int) := ⟨p.toNat, by omega⟩
      have := (runsN_mem (fun p => !fb p) k pg (by omega)).1 ⟨r, hr, by omega, by omega⟩
      exact (hf k (by omega)).1 (by simpa using this)
    · intro hp
      have := fr_in h hp
      obtain ⟨k, rfl⟩ : ∃ k : Nat, p = (k : Int) := ⟨p.toNat, by omega⟩
      obtain ⟨r, hr, h1, h2⟩ := (runsN_mem (fun p => !fb p) k pg (by omega)).2 (by simpa using (hf k (by omega)).2 hp)
      exact ⟨r, hr, by omega, by omega⟩
  rw [← runsOf_keys (keys_eq hg h hfr)]
  refine up_ext (f := fun x => x.1) ?_ (runsOf_up hg) (fun x => ?_)
  · rw [List.pairwise_map]
    exact (runsN_sorted (fun p => !fb p) pg).imp (fun {a b} q => by simp only [intP]; omega)
  · rw [runsOf_mem, List.mem_map]
    constructor
    · rintro ⟨r, hr, rfl⟩
      have := hb r hr
      exact ⟨_, build_mem.2 ⟨r, hr, rfl⟩, by simp only [intP]; rw [rA_k (by omega) (by omega), rN_k (by omega) (by omega)]⟩
    · rintro ⟨i, hi, rfl⟩
      obtain ⟨r, hr, rfl⟩ := build_mem.1 hi
      have := hb r hr
      exact ⟨r, hr, by simp only [intP]; rw [rA_k (by omega) (by omega), rN_k (by omega) (by omega)]⟩
end Go.Proofs.Ythcfmpjmgheieaa

namespace Go.Proofs.Ythcfmpjmgheieaa
open Go.RowKit

def freeVals (fb : Nat → Bool) (pg : Nat) : Array Value := ((List.range pg).map fun p => Value.bool (fb p)).toArray
theorem freeVals_size (fb : Nat → Bool) (pg : Nat) : (freeVals fb pg).size = pg := by simp [freeVals]
theorem freeVals_get {fb : Nat → Bool} {pg p : Nat} (h : p < pg) : (freeVals fb pg)[p]? = some (.bool (fb p)) := by simp [freeVals, h]
structure XAt (w : World) (x gf : Nat) (vt : Value) (a : Option Addr) (c pg : Nat) (fb : Nat → Bool) (ds : List Nat) (dn : Nat) (M : List (It Int)) : Prop where
  head : w.heap[x]? = some (.cells #[.slice (some ⟨gf, 0, none⟩) pg pg, vt, .slice a ds.length c, .int .i64 (dn : Int)] 90 (0, 0))
  free : w.heap[gf]? = some (.cells (freeVals fb pg) 4 (0, 0))
  row : w.ownsRow 0 132 3 vt M.length (itemVals M)
  ris : Rising M
  draws : DrawsAt w a ds
  gx : gf ≠ x
  tx : vt.ownBlock ≠ some x
  tg : vt.ownBlock ≠ some gf
  ax : ds ≠ [] → ∀ g, a = some ⟨g, 0, none⟩ → g ≠ x ∧ g ≠ gf ∧ vt.ownBlock ≠ some g
theorem XAt.tree {w : World} {x gf : Nat} {vt : Value} {a : Option Addr} {c pg : Nat} {fb : Nat → Bool} {ds : List Nat} {dn : Nat} {M : List (It Int)} (h : XAt w x gf vt a c pg fb ds dn M) : DAt w x 1 vt M :=
  ⟨cell_of_heap h.head, lt_of_heap h.head, frozen_of_heap h.head, h.row, h.tx, h.ris⟩
theorem XAt.cell {w : World} {x gf : Nat} {vt : Value} {a : Option Addr} {c pg : Nat} {fb : Nat → Bool} {ds : List Nat} {dn : Nat} {M : List (It Int)} (h : XAt w x gf vt a c pg fb ds dn M) {p : Nat} (hp : p < pg) : w.cell? ⟨gf, p, none⟩ = some (.bool (fb p)) := by
  rw [cell_of_heap h.free]
  exact freeVals_get hp
/-- The blocks of it. -/
def XF (x gf : Nat) (vt : Value) (a : Option Addr) (ds : List Nat) (k : Nat) : Prop := k = x ∨ k = gf ∨ vt.ownBlock = some k ∨ (ds ≠ [] ∧ a = some ⟨k, 0, none⟩)
theorem XAt.lt {w : World} {x gf : Nat} {vt : Value} {a : Option Addr} {c pg : Nat} {fb : Nat → Bool} {ds : List Nat} {dn : Nat} {M : List (It Int)} (h : XAt w x gf vt a c pg fb ds dn M) {k : Nat} (hk : XF x gf vt a ds k) : k < w.heap.size := by
  rcases hk with rfl | rfl | hk | ⟨h1, h2⟩
  · exact lt_of_heap h.head
  · exact lt_of_heap h.free
  · exact (own_lt h.row hk).2
  · obtain ⟨g, e, hg, _⟩ := h.draws h1
    rw [h2] at e; cases e; exact hg
theorem XAt.kept {w w' : World} {x gf : Nat} {vt : Value} {a : Option Addr} {c pg : Nat} {fb : Nat → Bool} {ds : List Nat} {dn : Nat} {M : List (It Int)} {S : Nat → Prop} (h : XAt w x gf vt a c pg fb ds dn M) (k : Only S w w') (hn : ∀ y, XF x gf vt a ds y → ¬ S y) : XAt w' x gf vt a c pg fb ds dn M :=
  ⟨(k.block x (lt_of_heap h.head) (hn x (.inl rfl))).trans h.head, (k.block gf (lt_of_heap h.free) (hn gf (.inr (.inl rfl)))).trans h.free, ownsRow_kept h.row (Nat.le_refl _) (fun y hy hl => k.block y hl (hn y (.inr (.inr (.inl hy))))), h.ris, h.draws.kept k (fun hd g e => hn g (.inr (.inr (.inr ⟨hd, e⟩)))), h.gx, h.tx, h.tg, h.ax⟩
theorem XAt.below {w w' : World} {x gf : Nat} {vt : Value} {a : Option Addr} {c pg : Nat} {fb : Nat → Bool} {ds : List Nat} {dn : Nat} {M : List (It Int)} (h : XAt w x gf vt a c pg fb ds dn M) (b : Below w.heap.size w w') : XAt w' x gf vt a c pg fb ds dn M :=
  h.kept (Below.only b (fun _ => False)) (fun _ _ h => h)
/-- How many of the first k pages are free. -/
def cntF (fb : Nat → Bool) : Nat → Nat
  | 0 => 0
  | k + 1 => if fb k then cntF fb k + 1 else cntF fb k
theorem cntF_le (fb : Nat → Bool) : ∀ k, cntF fb k ≤ k
  | 0 => Nat.le_refl _
  | k + 1 => by have := cntF_le fb k; unfold cntF; split <;> omega

set_option maxRecDepth 100000 in
set_option maxHeartbeats 2000000 in
theorem xtotal (w : World) (x gf : Nat) (vt : Value) (a : Option Addr) (c pg : Nat) (fb : Nat → Bool) (ds : List Nat) (dn : Nat) (M : List (It Int)) (h : XAt w x gf vt a c pg fb ds dn M) (hp : pg ≤ 4096) :
    Calls Try.prog 49 #[.pointer (some ⟨x, 0, none⟩)] w fun e w' => e = .returned (.int .i64 (cntF fb pg : Int)) ∧ w' = w := by
  have c0 : w.cell? ⟨x, 0, none⟩ = some (.slice (some ⟨gf, 0, none⟩) pg pg) := cell_of_heap h.head
  have HC := hide (fun p (hp : p < pg) => h.cell hp)
  clear h
  go_enter Try.func49, Try.ntmps49
  go_wp2
  go_loopg [3, 4] pg (fun m r3 r4 wr => ∃ j : Nat, j + m = pg ∧ r3 = .int .i64 (cntF fb j : Int) ∧ r4 = .int .i64 (j : Int) ∧ wr = w)
  case atStart => exact ⟨0, by omega, rfl, rfl, rfl⟩
  case round =>
    obtain ⟨j, hj, rfl, rfl, rfl⟩ := hrel
    have hle := cntF_le fb j
    by_cases hlt : j < pg
    · have c1 := HC.out j hlt
      have d1 : decide ((j : Int) < (pg : Int)) = true := by simp; omega
      have d2 : decide (j < pg) = true := by simp; omega
      cases hb : fb j with
      | true =>
        rw [hb] at c1
        have E : Hid (cntF fb (j + 1) = cntF fb j + 1) := hide (by simp [cntF, hb])
        generalize cntF fb j = q at *
        clear hb
        go_wp2
        go_roundg (pg - (j + 1))
        case measure => omega
        case rel => exact ⟨j + 1, by omega, by rw [E.out]; go_num, by go_num, rfl⟩
      | false =>
        rw [hb] at c1
        have E : Hid (cntF fb (j + 1) = cntF fb j) := hide (by simp [cntF, hb])
        generalize cntF fb j = q at *
        clear hb
        go_wp2
        go_roundg (pg - (j + 1))
        case measure => omega
        case rel => exact ⟨j + 1, by omega, by rw [E.out], by go_num, rfl⟩
    · have : j = pg := by omega
      subst this
      go_wp2
      go_ret
      exact ⟨rfl, rfl⟩
end Go.Proofs.Ythcfmpjmgheieaa

namespace Go.Proofs.Ythcfmpjmgheieaa
open Go.RowKit

theorem runsN_len (nf : Nat → Bool) : ∀ k, (runsN nf k).length ≤ k
  | 0 => Nat.le_refl _
  | k + 1 => by
    have ih := runsN_len nf k
    unfold runsN
    split
    · omega
    · by_cases he : Ends (runsN nf k) k
      · obtain ⟨R0, r, hR, _, hs⟩ := runStep_ends he
        rw [hs]
        rw [hR] at ih
        simp only [List.length_append, List.length_singleton] at ih ⊢
        omega
      · rw [runStep_new he, List.length_append, List.length_singleton]; omega
def XListEnd (w : World) (l : List (Nat × Nat)) : Ending → World → Prop := fun e w' => ∃ v, e = .returned v ∧ w'.ownsRow w.heap.size 84 2 v l.length (pairVals .i64 l) ∧ Below w.heap.size w w'
theorem runs_of_pairs {W : World} {base : Nat} {t : TypeId} {v : Value} {l : List (Nat × Nat)} (h : W.ownsRow base t 2 v l.length (pairVals .i64 l)) : RunsV W v (l.map intP) := by
  rcases h.2 with ⟨rfl, h0⟩ | ⟨g, cap, cur, rfl, hb, hg, _⟩
  · exact ⟨none, 0, by rw [List.length_map, h0], fun hne => absurd (by rw [List.length_eq_zero_iff.1 h0]; rfl) hne⟩
  · refine ⟨_, _, by rw [List.length_map], fun _ => ⟨g, rfl, lt_of_heap hg, fun i hi => ?_⟩⟩
    rw [List.length_map] at hi
    have hl := pairVals_length .i64 l
    have h1 := World.ownsRow.cellAt h (i * 2) (by omega)
    have h2 := World.ownsRow.cellAt h (i * 2 + 1) (by omega)
    have gg := pairVals_get .i64 l i hi
    rw [Nat.mul_comm 2 i] at gg
    rw [h1, h2, gg.1, gg.2]
    have e : (l.map intP).getD i (0, 0) = intP (l.getD i (0, 0)) := by simp [List.getD, hi]
    rw [e]
    exact ⟨rfl, rfl⟩

set_option maxRecDepth 100000 in
set_option maxHeartbeats 2000000 in
theorem xlist (w : World) (bx gf : Nat) (vt : Value) (a : Option Addr) (c pg : Nat) (fb : Nat → Bool) (ds : List Nat) (dn : Nat) (M : List (It Int)) (h : XAt w bx gf vt a c pg fb ds dn M) (hpg : pg ≤ 4096) :
    Calls Try.prog 31 #[.pointer (some ⟨bx, 0, none⟩)] w (XListEnd w (runsN (fun p => !fb p) pg)) := by
  obtain ⟨i0, hi, hz0, hz1, hz2⟩ := info_parts infoRun
  have HX := hide (fun W (hW : Below w.heap.size w W) => h.below hW)
  have HLE := hide (runsN_len (fun p => !fb p))
  have HBE := hide (runsN_below (fun p => !fb p))
  clear h
  go_enter Try.func31, Try.ntmps31
  go_wp2
  go_loopw [3, 4] (fun v i wr => ∃ j : Nat, i = .int .i64 (j : Int) ∧ j ≤ pg ∧ Hid (wr.ownsRow w.heap.size 84 2 v (runsN (fun p => !fb p) j).length (pairVals .i64 (runsN (fun p => !fb p) j)) ∧ Below w.heap.size w wr)) (fun _ i _ => pg - (intOf i).toNat)
  case atStart => exact ⟨0, rfl, Nat.zero_le _, World.ownsRow_nil _ _ _ _, Below.refl _ _⟩
  case round =>
    obtain ⟨j, rfl, hje, hH⟩ := hrel
    obtain ⟨hrow, hB⟩ := hH.out
    by_cases hlt : j < pg
    · have c0 : wr.cell? ⟨bx, 0, none⟩ = some (.slice (some ⟨gf, 0, none⟩) pg pg) := cell_of_heap (HX.out wr hB).head
      have c1 := (HX.out wr hB).cell hlt
      have hnext : Hid (runsN (fun p => !fb p) (j + 1) = if (!fb j) = true then runsN (fun p => !fb p) j else runStep (runsN (fun p => !fb p) j) j) := rfl
      have hlen := HLE.out j
      have hbel := HBE.out j
      have HB := hide hB
      clear hB hH
      cases hb : fb j with
      | false =>
        rw [hb] at c1 hnext
        have HRow := hide hrow
        clear hb hrow hbel
        go_wp2
        go_roundw
        case rel => exact ⟨j + 1, by go_num, by omega, by rw [hnext.out]; exact HRow.out, HB.out⟩
        case measure => simp [intOf]; omega
      | true =>
        rw [hb] at c1 hnext
        rw [if_neg (by simp)] at hnext
        clear hb
        by_cases hends : Ends (runsN (fun p => !fb p) j) j
        · obtain ⟨R0, ⟨x, y⟩, hR, hxy, hstep⟩ := runStep_ends hends
          simp only at hxy hstep
          rw [hstep] at hnext
          rw [hR] at hrow hlen hbel
          have hy := (hbel (x, y) (by simp)).1
          clear hends hstep hbel
          rw [List.length_append, List.length_singleton] at hrow hlen
          obtain ⟨g, cap, rfl⟩ := ownsRow_succ hrow
          have e1 := hrow.cellAt (2 * R0.length) (by omega)
          have e2 := hrow.cellAt (2 * R0.length + 1) (by omega)
          have f2 := hrow.frozenAt (2 * R0.length + 1)
          have hgl := (hrow.lt g rfl).1
          have gg := pairVals_get .i64 (R0 ++ [(x, y)]) R0.length (by simp)
          rw [gg.1] at e1
          rw [gg.2] at e2
          simp only [List.getD_eq_getElem?_getD, List.getElem?_concat_length, Option.getD_some] at e1 e2
          have HST := hide (hrow.stored (2 * R0.length + 1) (.int .i64 ((y + 1 : Nat) : Int)))
          rw [pairVals_last] at HST
          clear hrow gg hR
          have HL : Hid ((R0 ++ [(x, y + 1)]).length = R0.length + 1) := hide (by simp)
          generalize R0.length = s at *
          have hxb : (((x : Int) + (y : Int)) == (j : Int)) = true := by simp; omega
          have hx9 : x ≤ 70368744177664 := by omega
          have hy9 : y ≤ 70368744177664 := by omega
          have HXY := hide hxy
          clear hxy
          rw [Nat.mul_comm 2 s] at e1 e2 f2 HST
          go_wp2
          go_quiet (fail)
          go_wp2
          go_roundw
          case rel =>
            refine ⟨j + 1, by go_num, by omega, ?_, (below_drewN HB.out _).setCell (p := ⟨g, s * 2 + 1, none⟩) (by simp; omega) _⟩
            rw [hnext.out, HL.out]
            exact HST.out.1
          case measure => simp [intOf]; omega
        · rw [runStep_new hends] at hnext
          have HL : Hid ((runsN (fun p => !fb p) j ++ [(j, 1)]).length = (runsN (fun p => !fb p) j).length + 1) := hide (by simp)
          have HV : Hid (pairVals .i64 (runsN (fun p => !fb p) j ++ [(j, 1)]) = pairVals .i64 (runsN (fun p => !fb p) j) ++ [.int .i64 (j : Int), .int .i64 1]) := hide (pairVals_snoc _ _ _ _)
          have hfin : ∀ (v' : Value) (w3 : World), w3.ownsRow w.heap.size 84 2 v' ((runsN (fun p => !fb p) j).length + 1) (pairVals .i64 (runsN (fun p => !fb p) j) ++ [.int .i64 (j : Int), .int .i64 1]) → w3.ownsRow w.heap.size 84 2 v' (runsN (fun p => !fb p) (j + 1)).length (pairVals .i64 (runsN (fun p => !fb p) (j + 1))) := fun v' w3 h => by
            rw [hnext.out, HL.out, HV.out]; exact h
          have HFin := hide hfin
          clear hfin HL HV hnext
          cases hR : (runsN (fun p => !fb p) j).getLast? with
          | none =>
            have h0 : runsN (fun p => !fb p) j = [] := by simpa using hR
            rw [h0] at hrow HFin hlen
            have HRow := hide hrow
            have hrow2 := hrow.2
            clear hrow hR h0 hends hbel
            simp only [List.length_nil] at hrow2
            rcases hrow2 with ⟨rfl, _⟩ | ⟨g, cap, cur, rfl, _, _, hcap, hcapm, _⟩
            · go_wp2
              go_quiet (fail)
              go_wp2_with (at_builtin; refine wpList_append_own _ rfl _ _ 63 rfl w.heap.size 84 i0 (.agg #[.int .i64 0, .int .i64 0]) 2 16 Try.underlying63 hi hz0 hz1 hz2 rfl (by decide) _ _ _ rfl (HRow.out.alloc _) ⟨_, 0, none⟩ 1 1 [.int .i64 (j : Int), .int .i64 1] rfl rfl (cell_two_new _ _ _ _) (by simp [Value.oneCell']) (by unfold maxLen; omega) (by omega) (by have := HB.out.size; simp; omega) ?_; intro v' w3 hown' hgrow' _)
              go_roundw
              case rel => exact ⟨j + 1, by go_num, by omega, HFin.out _ _ hown', below_app (w := w) (W := World.drewN _ _) (below_drewN HB.out _) (Nat.le_refl _) HRow.out hgrow'⟩
              case measure => simp [intOf]; omega
            · go_wp2
              go_quiet (fail)
              go_wp2_with (at_builtin; refine wpList_append_own _ rfl _ _ 63 rfl w.heap.size 84 i0 (.agg #[.int .i64 0, .int .i64 0]) 2 16 Try.underlying63 hi hz0 hz1 hz2 rfl (by decide) _ _ _ rfl (HRow.out.alloc _) ⟨_, 0, none⟩ 1 1 [.int .i64 (j : Int), .int .i64 1] rfl rfl (cell_two_new _ _ _ _) (by simp [Value.oneCell']) (by unfold maxLen; omega) (by omega) (by have := HB.out.size; simp; omega) ?_; intro v' w3 hown' hgrow' _)
              go_roundw
              case rel => exact ⟨j + 1, by go_num, by omega, HFin.out _ _ hown', below_app (w := w) (W := World.drewN _ _) (below_drewN HB.out _) (Nat.le_refl _) HRow.out hgrow'⟩
              case measure => simp [intOf]; omega
          | some r =>
            obtain ⟨R0, hR0⟩ := List.getLast?_eq_some_iff.1 hR
            obtain ⟨x, y⟩ := r
            have hne : x + y ≠ j := fun h => hends ⟨(x, y), hR, h⟩
            have hbb := hbel (x, y) (by rw [hR0]; simp)
            simp only at hbb
            rw [hR0] at hrow HFin hlen
            rw [List.length_append, List.length_singleton] at hrow HFin hlen
            have HRow := hide hrow
            obtain ⟨g, cap, rfl⟩ := ownsRow_succ hrow
            have e1 := hrow.cellAt (2 * R0.length) (by omega)
            have e2 := hrow.cellAt (2 * R0.length + 1) (by omega)
            have gg := pairVals_get .i64 (R0 ++ [(x, y)]) R0.length (by simp)
            rw [gg.1] at e1
            rw [gg.2] at e2
            simp only [List.getD_eq_getElem?_getD, List.getElem?_concat_length, Option.getD_some] at e1 e2
            clear hrow gg hR hR0 hends hbel
            generalize R0.length = s at *
            rw [Nat.mul_comm 2 s] at e1 e2
            have hxb : (((x : Int) + (y : Int)) == (j : Int)) = false := by simp; omega
            go_wp2
            go_quiet (fail)
            go_wp2_with (at_builtin; refine wpList_append_own _ rfl _ _ 63 rfl w.heap.size 84 i0 (.agg #[.int .i64 0, .int .i64 0]) 2 16 Try.underlying63 hi hz0 hz1 hz2 rfl (by decide) _ _ _ rfl (HRow.out.alloc _) ⟨_, 0, none⟩ 1 1 [.int .i64 (j : Int), .int .i64 1] rfl rfl (cell_two_new _ _ _ _) (by simp [Value.oneCell']) (by unfold maxLen; omega) (by omega) (by have := HB.out.size; simp; omega) ?_; intro v' w3 hown' hgrow' _)
            go_roundw
            case rel => exact ⟨j + 1, by go_num, by omega, HFin.out _ _ hown', below_app (w := w) (W := World.drewN _ _) (below_drewN HB.out _) (Nat.le_refl _) HRow.out hgrow'⟩
            case measure => simp [intOf]; omega
    · have hjp : j = pg := by omega
      have HB := hide hB
      have c0 : wr.cell? ⟨bx, 0, none⟩ = some (.slice (some ⟨gf, 0, none⟩) pg pg) := cell_of_heap (HX.out wr hB).head
      rw [hjp] at hrow
      have HRow := hide hrow
      clear hB hrow hH
      go_wp2
      go_ret
      exact ⟨_, rfl, HRow.out, HB.out⟩
end Go.Proofs.Ythcfmpjmgheieaa

namespace Go.Proofs.Ythcfmpjmgheieaa
open Go.RowKit

section
variable {w w' u W : World} {x gf : Nat} {vt : Value} {a : Option Addr} {c pg : Nat} {fb fb' : Nat → Bool} {ds : List Nat} {dn dn' : Nat} {M M' : List (It Int)}
def XTurned (w w' : World) (x gf : Nat) (vt : Value) (a : Option Addr) (c pg : Nat) (fb : Nat → Bool) (ds : List Nat) (dn : Nat) (M : List (It Int)) : Prop :=
  ∃ vt', XAt w' x gf vt' a c pg fb ds dn M ∧ Only (fun k => k = x ∨ k = gf) w w' ∧ ∀ k, vt'.ownBlock = some k → vt.ownBlock = some k ∨ w.heap.size ≤ k
theorem XTurned.same (h : XAt w x gf vt a c pg fb ds dn M) (b : Below w.heap.size w w') : XTurned w w' x gf vt a c pg fb ds dn M := ⟨vt, h.below b, Below.only b _, fun _ q => .inl q⟩
theorem XTurned.trans (h : XTurned w u x gf vt a c pg fb ds dn M) (g : ∀ vt', XAt u x gf vt' a c pg fb ds dn M → XTurned u w' x gf vt' a c pg fb' ds dn' M') : XTurned w w' x gf vt a c pg fb' ds dn' M' := by
  obtain ⟨v1, h1, h2, h3⟩ := h
  obtain ⟨v2, g1, g2, g3⟩ := g v1 h1
  refine ⟨v2, g1, h2.trans g2, fun k hk => ?_⟩
  rcases g3 k hk with q | q
  · exact h3 k q
  · exact .inr (Nat.le_trans h2.size q)
theorem XTurned.chain {vt' : Value} (o : Only (fun k => k = x ∨ k = gf) w u) (m : ∀ k, vt'.ownBlock = some k → vt.ownBlock = some k ∨ w.heap.size ≤ k) (g : XTurned u w' x gf vt' a c pg fb ds dn M) : XTurned w w' x gf vt a c pg fb ds dn M := by
  obtain ⟨v2, g1, g2, g3⟩ := g
  refine ⟨v2, g1, o.trans g2, fun k hk => ?_⟩
  rcases g3 k hk with q | q
  · exact m k q
  · exact .inr (Nat.le_trans o.size q)
theorem XTurned.left (b : Below w.heap.size w u) (h : XTurned u w' x gf vt a c pg fb ds dn M) : XTurned w w' x gf vt a c pg fb ds dn M := by
  obtain ⟨v1, h1, h2, h3⟩ := h
  exact ⟨v1, h1, (Below.only b _).trans h2, fun k hk => (h3 k hk).imp (fun q => q) (fun q => Nat.le_trans b.size q)⟩
theorem XTurned.right (h : XTurned w u x gf vt a c pg fb ds dn M) (b : Below u.heap.size u w') : XTurned w w' x gf vt a c pg fb ds dn M := h.trans fun _ q => XTurned.same q b
theorem XAt.putT (h : XAt w x gf vt a c pg fb ds dn M) (b : Below w.heap.size w W) {v' : Value} {n : Nat} (hrow : W.ownsRow w.heap.size 132 3 v' n (itemVals M')) (hn : M'.length = n) (hr : Rising M') : XTurned w (W.setCell ⟨x, 1, none⟩ v') x gf vt a c pg fb ds dn M' := by
  have hx := lt_of_heap h.head
  have hg := lt_of_heap h.free
  have hbl : ∀ k, v'.ownBlock = some k → w.heap.size ≤ k := fun k hk => (own_lt hrow hk).1
  refine ⟨v', ⟨?_, ?_, ?_, hr, ?_, h.gx, fun q => ?_, fun q => ?_, fun hd g e => ?_⟩, set_only b (.inl rfl), fun k hk => .inr (hbl k hk)⟩
  · rw [heap_setCell_at ((b.block x hx).trans h.head)]; rfl
  · exact (heap_setCell_ne h.gx _).trans ((b.block gf hg).trans h.free)
  · rw [hn]; exact ownsRow_kept hrow (Nat.zero_le _) (fun k hk _ => Below.heap_setCell _ _ _ _ (by have := hbl k hk; simp; omega))
  · exact h.draws.kept (M := fun k => k = x) (set_only b rfl) (fun hd g e => (h.ax hd g e).1)
  · have := hbl x q; omega
  · have := hbl gf q; omega
  · obtain ⟨q1, q2, _⟩ := h.ax hd g e
    refine ⟨q1, q2, fun q => ?_⟩
    have h1 := hbl g q
    have h2 := h.lt (.inr (.inr (.inr ⟨hd, e⟩)))
    omega
theorem XAt.count (h : XAt w x gf vt a c pg fb ds dn M) (m : Nat) : XTurned w (w.setCell ⟨x, 3, none⟩ (.int .i64 (m : Int))) x gf vt a c pg fb ds m M := by
  have o : Only (fun k => k = x) w (w.setCell ⟨x, 3, none⟩ (.int .i64 (m : Int))) := (Only.refl (fun k => k = x) w).setCell (p := ⟨x, 3, none⟩) (.inl rfl) _
  refine ⟨vt, ⟨?_, ?_, ?_, h.ris, ?_, h.gx, h.tx, h.tg, h.ax⟩, o.mono (fun k _ q => .inl q), fun k hk => .inl hk⟩
  · rw [heap_setCell_at h.head]; rfl
  · exact (heap_setCell_ne h.gx _).trans h.free
  · exact ownsRow_kept h.row (Nat.le_refl _) (fun k hk _ => heap_setCell_ne (fun e => h.tx (by rw [← e]; exact hk)) _)
  · exact h.draws.kept o (fun hd g e => (h.ax hd g e).1)
theorem freeVals_set (fb : Nat → Bool) (pg p : Nat) (b : Bool) : (freeVals fb pg).setIfInBounds p (.bool b) = freeVals (fun q => if q = p then b else fb q) pg := by
  unfold freeVals
  rw [List.setIfInBounds_toArray]
  congr 1
  apply List.ext_getElem
  · simp
  · intro i h1 h2
    rw [List.getElem_set]
    simp only [List.getElem_map, List.getElem_range]
    by_cases e : p = i
    · rw [if_pos e, if_pos e.symm]
    · rw [if_neg e, if_neg (fun q => e q.symm)]
theorem XAt.mark (h : XAt w x gf vt a c pg fb ds dn M) (p : Nat) (b : Bool) : XTurned w (w.setCell ⟨gf, p, none⟩ (.bool b)) x gf vt a c pg (fun q => if q = p then b else fb q) ds dn M := by
  have o : Only (fun k => k = gf) w (w.setCell ⟨gf, p, none⟩ (.bool b)) := (Only.refl (fun k => k = gf) w).setCell (p := ⟨gf, p, none⟩) (.inl rfl) _
  refine ⟨vt, ⟨?_, ?_, ?_, h.ris, ?_, h.gx, h.tx, h.tg, h.ax⟩, o.mono (fun k _ q => .inr q), fun k hk => .inl hk⟩
  · exact (heap_setCell_ne (fun e => h.gx e.symm) _).trans h.head
  · rw [heap_setCell_at h.free, freeVals_set]
  · exact ownsRow_kept h.row (Nat.le_refl _) (fun k hk _ => heap_setCell_ne (fun e => h.tg (by rw [← e]; exact hk)) _)
  · exact h.draws.kept o (fun hd g e => (h.ax hd g e).2.1)
end

/-- A run in a block of its own. -/
def RunBox (b : Nat) (A N : Int) (w : World) : Prop := w.heap[b]? = some (.cells #[.int .i64 A, .int .i64 N] 84 (0, 0))

set_option maxRecDepth 100000 in
set_option maxHeartbeats 2000000 in
theorem xshape (w : World) (x gf : Nat) (vt : Value) (a : Option Addr) (c pg : Nat) (fb : Nat → Bool) (ds : List Nat) (dn : Nat) (M : List (It Int)) (h : XAt w x gf vt a c pg fb ds dn M) (hl : M.length ≤ 1000000) :
    Calls Try.prog 34 #[.pointer (some ⟨x, 0, none⟩)] w (ShapeEnd w M.length (shp M)) := by
  have HS := hide (dshape w x 1 vt M h.tree hl)
  have c1 : w.cell? ⟨x, 1, none⟩ = some vt := cell_of_heap h.head
  clear h
  go_enter Try.func34, Try.ntmps34
  go_wp2_with fail
  refine HS.out.mono ?_
  rintro ex W1 ⟨v1, rfl, b1, own1⟩
  have B1 := hide b1
  have O1 := hide own1
  clear b1 own1 HS
  go_wp2
  go_ret
  exact ⟨_, rfl, B1.out, O1.out⟩

set_option maxRecDepth 100000 in
set_option maxHeartbeats 2000000 in
theorem xadd (w : World) (x gf : Nat) (vt : Value) (a : Option Addr) (c pg : Nat) (fb : Nat → Bool) (ds : List Nat) (dn : Nat) (M : List (It Int)) (h : XAt w x gf vt a c pg fb ds dn M) (A N : Int) (hA : 0 ≤ A ∧ A < 8192) (hN : 0 ≤ N ∧ N ≤ 4096) (hg : getL (8192 * N + A) M = none) (hl : M.length ≤ 1000000) (hdn : dn ≤ 1000000000) :
    Calls Try.prog 42 #[.pointer (some ⟨x, 0, none⟩), .agg #[.int .i64 A, .int .i64 N]] w fun e w' => e = .returned (.tuple #[]) ∧ XTurned w w' x gf vt a c pg fb ds (dn + 1) (insL (8192 * N + A) (ds.getD dn 0) A M) := by
  have hB : Below w.heap.size w (w.alloc (.cells #[.int .i64 A, .int .i64 N] 84)) := (Below.refl _ w).alloc (Nat.le_refl _) _
  have hb0 : RunBox w.heap.size A N (w.alloc (.cells #[.int .i64 A, .int .i64 N] 84)) := heap_alloc_at _ _
  have hx := lt_of_heap h.head
  have h1 := h.below hB
  obtain ⟨B, hBe⟩ : ∃ B, w.heap.size = B := ⟨_, rfl⟩
  rw [hBe] at hb0 hx
  have HB := hide hB
  have HG := hide hg
  clear h hg hB
  have c2 : (w.alloc (.cells #[.int .i64 A, .int .i64 N] 84)).cell? ⟨x, 2, none⟩ = some (.slice a ds.length c) := cell_of_heap h1.head
  have c3 : (w.alloc (.cells #[.int .i64 A, .int .i64 N] 84)).cell? ⟨x, 3, none⟩ = some (.int .i64 (dn : Int)) := cell_of_heap h1.head
  by_cases hd : dn < ds.length
  case' pos =>
    have d1 : decide ((dn : Int) < (ds.length : Int)) = true := by simp; omega
    have d2 : decide (dn < ds.length) = true := by simp; omega
    obtain ⟨g, rfl, _, hgc⟩ := h1.draws (by intro e; rw [e] at hd; simp at hd)
    have c4 := hgc dn hd
    generalize ds.getD dn 0 = dd at *
    go_enter Try.func42, Try.ntmps42
    go_wp2_with fail
    have HH := hide h1
    have HB0 := hide hb0
    clear h1 hb0 hgc
    try rw [hBe]
    generalize w.alloc (.cells #[.int .i64 A, .int .i64 N] 84) = w0 at *
    go_quiet (fail)
    obtain ⟨V1, hV1⟩ : ∃ V1, w0.drewN nq = V1 := ⟨_, rfl⟩
    have A1 : Alike w0 V1 := by rw [← hV1]; exact Alike.drewN _ _
    rw [hV1]
    replace c2 : V1.cell? ⟨x, 2, none⟩ = some (.slice (some ⟨g, 0, none⟩) ds.length c) := (World.cell?_of_block (a := ⟨x, 2, none⟩) (by rw [A1.heap])).trans c2
    replace c3 : V1.cell? ⟨x, 3, none⟩ = some (.int .i64 (dn : Int)) := (World.cell?_of_block (a := ⟨x, 3, none⟩) (by rw [A1.heap])).trans c3
    replace c4 : V1.cell? ⟨g, dn, none⟩ = some (.int .u32 (dd : Int)) := (World.cell?_of_block (a := ⟨g, dn, none⟩) (by rw [A1.heap])).trans c4
    have HA1 := hide A1
    clear hV1 A1
    go_wp2
    go_quiet (fail)
    obtain ⟨V2, hV2⟩ : ∃ V2, V1.drewN nq = V2 := ⟨_, rfl⟩
    have HA2 : Hid (Alike w0 V2) := hide (HA1.out.trans (by rw [← hV2]; exact Alike.drewN _ _))
    rw [hV2]
    clear hV2 c2 c3 c4 HA1 V1
  case' neg =>
    have d1 : decide ((dn : Int) < (ds.length : Int)) = false := by simp; omega
    have d2 : decide (dn < ds.length) = false := by simp; omega
    obtain ⟨dd, hdd⟩ : ∃ dd, ds.getD dn 0 = dd := ⟨_, rfl⟩
    have hd0 : dd = 0 := by rw [← hdd]; simp [List.getD, List.getElem?_eq_none (Nat.le_of_not_lt hd)]
    rw [hdd]
    clear hdd
    go_enter Try.func42, Try.ntmps42
    go_wp2_with fail
    have HH := hide h1
    have HB0 := hide hb0
    clear h1 hb0
    try rw [hBe]
    generalize w.alloc (.cells #[.int .i64 A, .int .i64 N] 84) = w0 at *
    go_quiet (fail)
    subst hd0
    obtain ⟨V2, hV2⟩ : ∃ V2, w0.drewN nq = V2 := ⟨_, rfl⟩
    have HA2 : Hid (Alike w0 V2) := hide (by rw [← hV2]; exact Alike.drewN _ _)
    rw [hV2]
    clear hV2 c2 c3
  all_goals (
    have X2 := HH.out.below (HA2.out.below _)
    have C3 : V2.cell? ⟨x, 3, none⟩ = some (.int .i64 (dn : Int)) := cell_of_heap X2.head
    have CF : V2.frozen? ⟨x, 3, none⟩ = false := frozen_of_heap X2.head
    have T3 := X2.count (dn + 1)
    rw [show ((dn + 1 : Nat) : Int) = (dn : Int) + 1 by omega] at T3
    have HT3 := hide T3
    have HR3 : Hid (RunBox B A N (V2.setCell ⟨x, 3, none⟩ (.int .i64 ((dn : Int) + 1)))) := hide ((heap_setCell_ne (by omega) _).trans (by rw [HA2.out.heap]; exact HB0.out))
    have HBV : Hid (Below w.heap.size w V2) := hide (HB.out.trans ((HA2.out.below _).mono HB.out.size))
    clear X2 T3 HB0 HH HA2 HB
    go_wp2
    generalize (V2.setCell ⟨x, 3, none⟩ (.int .i64 ((dn : Int) + 1))) = V3 at *
    clear C3 CF
    have J0 : Hid (RunBox B A N V3.drew) := hide HR3.out
    have u1 : ∀ u : Mem (RunBox B A N), u.w'.cell? ⟨B, 0, none⟩ = some (.int .i64 A) := fun u => cell_of_heap u.h
    have u2 : ∀ u : Mem (RunBox B A N), u.w'.cell? ⟨B, 1, none⟩ = some (.int .i64 N) := fun u => cell_of_heap u.h
    have hne : Nonempty (Mem (RunBox B A N)) := ⟨⟨_, J0.out⟩⟩
    refine region_start (J := RunBox B A N) (by kernel_rfl) ?_
    refine stretch (fuel := 1) (by kernel_rfl) (fun _ _ _ _ _ h => h) J0.out [0, 1, 2, 3, 4, 5, 6, 7, 8, 9, 10, 11] (by kernel_rfl) ?_
    simp only [List.filterMap_cons, List.filterMap_nil, List.getElem?_toArray, List.getElem?_cons_zero, List.getElem?_cons_succ]
    show wpQuiet _ _ _ _ [_, _, _, _, _, _, _, _, _, _, _, _] _
    repeat (go_big_quiet_step (fail))
    refine wpQuiet_nil ?_
    refine wpAnyJ_writer (i := 12) rfl (by kernel_rfl) (fun K hK => ?_)
    go_simp
    obtain ⟨vt3, X3, o3, n3⟩ := HT3.out
    have X4 := X3.below (w' := V3.drew) ((Alike.drewN V3 1).below _)
    first
    | refine (dput _ x 1 vt3 M X4.tree (8192 * N + A) dd A HG.out hl).mono ?_
    | refine (dput _ x 1 vt3 M X4.tree (8192 * N + A) 0 A HG.out hl).mono ?_
    rintro e w5 ⟨rfl, v5, W5, rfl, b5, own5⟩
    have hJ5 : RunBox B A N (W5.setCell ⟨x, 1, none⟩ v5) := (heap_setCell_ne (by omega) _).trans ((b5.block B (lt_of_heap J0.out)).trans J0.out)
    have HT5 := hide (X4.putT b5 own5 insL_length (insL_rising X4.ris (fun i hi => getL_none HG.out i hi)))
    refine hK _ _ hJ5 ?_
    clear hK K
    refine wpAnyJ_done (by kernel_rfl) ?_
    have HF := hide (XTurned.chain o3 n3 (XTurned.left ((Alike.drewN V3 1).below _) HT5.out))
    clear b5 own5 hJ5 X3 X4 o3 n3 HT5
    go_wp2
    go_end0
    exact ⟨rfl, XTurned.left HBV.out HF.out⟩)
end Go.Proofs.Ythcfmpjmgheieaa

namespace Go.Proofs.Ythcfmpjmgheieaa
open Go.RowKit

def bestStep (n : Int) (s : Option (Int × Int)) (r : Int × Int) : Option (Int × Int) := match s with
  | none => if n ≤ r.2 then some r else none
  | some q => if n ≤ r.2 ∧ r.2 < q.2 then some r else some q
def bestTo (n : Int) (l : List (Int × Int)) : Nat → Option (Int × Int)
  | 0 => none
  | j + 1 => bestStep n (bestTo n l j) (l.getD j (0, 0))
def bestL (n : Int) (l : List (Int × Int)) : Option (Int × Int) := if n < 1 then none else bestTo n l l.length
def bv (s : Option (Int × Int)) : Int × Int := s.getD (0, 0)
theorem bestTo_in {n : Int} {l : List (Int × Int)} : ∀ j, j ≤ l.length → ∀ q, bestTo n l j = some q → q ∈ l
  | 0, _, q, h => by cases h
  | j + 1, hj, q, h => by
    have ih := bestTo_in (n := n) (l := l) j (by omega)
    have hm : l.getD j (0, 0) ∈ l := by
      rw [List.getD_eq_getElem?_getD, List.getElem?_eq_getElem (by omega)]
      exact List.getElem_mem _
    simp only [bestTo] at h
    cases hb : bestTo n l j with
    | none =>
      rw [hb] at h
      simp only [bestStep] at h
      split at h
      · cases h; exact hm
      · cases h
    | some q' =>
      rw [hb] at h
      simp only [bestStep] at h
      split at h
      · cases h; exact hm
      · cases h; exact ih _ hb
theorem RunBox.set {b : Nat} {A N A' N' : Int} {w : World} (h : RunBox b A N w) : RunBox b A' N' ((w.setCell ⟨b, 0, none⟩ (.int .i64 A')).setCell ⟨b, 1, none⟩ (.int .i64 N')) := by
  have := heap_setCell_at (o := 1) (heap_setCell_at (o := 0) h (.int .i64 A')) (.int .i64 N')
  exact this
theorem RunBox.other {b d o : Nat} {A N : Int} {w : World} {v : Value} (h : RunBox b A N w) (hd : b ≠ d) : RunBox b A N (w.setCell ⟨d, o, none⟩ v) := (heap_setCell_ne hd v).trans h

set_option maxRecDepth 100000 in
set_option maxHeartbeats 4000000 in
theorem xbest (w : World) (x gf : Nat) (vt : Value) (a : Option Addr) (c pg : Nat) (fb : Nat → Bool) (ds : List Nat) (dn : Nat) (M : List (It Int)) (h : XAt w x gf vt a c pg fb ds dn M) (hpg : pg ≤ 4096) (n : Int) (l : List (Int × Int)) (hl : l = (runsN (fun p => !fb p) pg).map intP) :
    Calls Try.prog 46 #[.pointer (some ⟨x, 0, none⟩), .int .i64 n] w fun e w' => e = .returned (.tuple #[.agg #[.int .i64 (bv (bestL n l)).1, .int .i64 (bv (bestL n l)).2], .bool (bestL n l).isSome]) ∧ Below w.heap.size w w' := by
  have hB : Below w.heap.size w (w.alloc (.cells #[.int .i64 0, .int .i64 0] 84)) := (Below.refl _ w).alloc (Nat.le_refl _) _
  have hb4 : RunBox w.heap.size 0 0 (w.alloc (.cells #[.int .i64 0, .int .i64 0] 84)) := heap_alloc_at _ _
  have HL := hide (xlist _ x gf vt a c pg fb ds dn M (h.below hB) hpg)
  obtain ⟨b4, hb⟩ : ∃ b, w.heap.size = b := ⟨_, rfl⟩
  rw [hb] at hb4
  have HB := hide hB
  have HB4 := hide hb4
  have hbd : ∀ r ∈ l, 0 ≤ r.1 ∧ r.1 < 8192 ∧ 1 ≤ r.2 ∧ r.2 ≤ 4096 := fun r hr => by
    rw [hl] at hr
    obtain ⟨s, hs, rfl⟩ := List.mem_map.1 hr
    have := runsN_below _ _ s hs
    simp only [intP]; omega
  have HBD := hide hbd
  have HE := hide hl
  have hlen : l.length ≤ 4096 := by rw [hl, List.length_map]; have := runsN_len (fun p => !fb p) pg; omega
  clear h hB hb4 hbd hl
  go_enter Try.func46, Try.ntmps46
  go_wp2_with fail
  generalize w.alloc (.cells #[.int .i64 0, .int .i64 0] 84) = w0 at *
  refine HL.out.mono ?_
  rintro e w1 ⟨v, rfl, own1, b1⟩
  have hv := runs_of_pairs own1
  rw [← HE.out] at hv
  obtain ⟨va, vc, rfl, hvc⟩ := hv
  have HV := hide hvc
  have h41 : RunBox b4 0 0 w1 := (b1.block b4 (lt_of_heap HB4.out)).trans HB4.out
  have HW1 : Hid (Below b4 w w1) := hide (by rw [← hb]; exact HB.out.trans (b1.mono HB.out.size))
  obtain ⟨b7, hb7⟩ : ∃ b, w1.heap.size = b := ⟨_, rfl⟩
  have h47 : b4 < b7 := by rw [← hb7]; exact lt_of_heap h41
  have h72 : RunBox b7 0 0 (w1.alloc (.cells #[.int .i64 0, .int .i64 0] 84)) := by rw [← hb7]; exact heap_alloc_at _ _
  have h42 : RunBox b4 0 0 (w1.alloc (.cells #[.int .i64 0, .int .i64 0] 84)) := heap_alloc_old h41
  have hb2 : Below b7 w1 (w1.alloc (.cells #[.int .i64 0, .int .i64 0] 84)) := by rw [← hb7]; exact (Below.refl _ _).alloc (Nat.le_refl _) _
  have H72 := hide h72
  have H42 := hide h42
  have HB2 := hide hb2
  obtain ⟨m, hm⟩ : ∃ m, l.length = m := ⟨_, rfl⟩
  have HM := hide hm
  rw [hm] at hlen ⊢
  clear own1 hvc h41 h72 h42 hb2 b1 HL hm HB HB4
  go_wp2
  generalize w1.alloc (.cells #[.int .i64 0, .int .i64 0] 84) = w2 at *
  go_loopg [8, 9] m (fun g r8 r9 wr => ∃ j : Nat, j + g = m ∧ (n < 1 → j = 0) ∧ r8 = .bool (bestTo n l j).isSome ∧ r9 = .int .i64 (j : Int) ∧ Hid (RunBox b7 (bv (bestTo n l j)).1 (bv (bestTo n l j)).2 wr ∧ RunBox b4 0 0 wr ∧ Below b7 w1 wr))
  case atStart => exact ⟨0, by omega, fun _ => rfl, rfl, rfl, H72.out, H42.out, HB2.out⟩
  case round =>
    clear H72 H42 HB2 w2
    obtain ⟨j, hj, hn0, rfl, rfl, hh⟩ := hrel
    obtain ⟨h7, h4, hbw⟩ := hh.out
    by_cases hin : j < m ∧ 1 ≤ n
    · obtain ⟨g, rfl, hg, hc⟩ := HV.out (fun e => by rw [e] at HM; have := HM.out; simp at this; omega)
      obtain ⟨q0, q1⟩ := hc j (by rw [HM.out]; exact hin.1)
      have e0 := (hbw.cell (p := ⟨g, j * 2, none⟩) (by rw [← hb7]; exact hg)).trans q0
      have e1 := (hbw.cell (p := ⟨g, j * 2 + 1, none⟩) (by rw [← hb7]; exact hg)).trans q1
      have z0 : wr.cell? ⟨b7, 0, none⟩ = some (.int .i64 (bv (bestTo n l j)).1) := cell_of_heap h7
      have z1 : wr.cell? ⟨b7, 1, none⟩ = some (.int .i64 (bv (bestTo n l j)).2) := cell_of_heap h7
      have zf0 : wr.frozen? ⟨b7, 0, none⟩ = false := frozen_of_heap h7
      have zf1 : wr.frozen? ⟨b7, 1, none⟩ = false := frozen_of_heap h7
      have HST : Hid (bestTo n l (j + 1) = bestStep n (bestTo n l j) (l.getD j (0, 0))) := hide rfl
      have H7 := hide h7
      have H4 := hide h4
      have HBW := hide hbw
      have d1 : decide ((j : Int) < (m : Int)) = true := by simp; omega
      have d2 : decide (j < m) = true := by simp; omega
      have d3 : decide (1 ≤ n) = true := by simp; omega
      clear hh h7 h4 hbw hg hc q0 q1
      generalize hr : l.getD j (0, 0) = r at *
      obtain ⟨rA0, rN0⟩ := r
      simp only at e0 e1
      clear hr
      by_cases k1 : n ≤ rN0
      · have d4 : decide (n ≤ rN0) = true := by simp [k1]
        cases hs : bestTo n l j with
        | none =>
          rw [hs] at HST H7 z0 z1
          have E : Hid (bestTo n l (j + 1) = some (rA0, rN0)) := hide (by rw [HST.out]; simp [bestStep, k1])
          simp only [bv, Option.getD_none] at z0 z1
          clear hs HST
          go_wp2
          go_quiet (fail)
          go_wp2
          go_roundg (m - (j + 1))
          case measure => omega
          case rel => exact ⟨j + 1, by omega, fun h => by omega, by rw [E.out]; rfl, by go_num, by rw [E.out]; exact RunBox.set (w := wr.drewN _) H7.out, RunBox.other (RunBox.other (w := wr.drewN _) H4.out (by omega)) (by omega), ((HBW.out.trans ((Alike.drewN _ _).below _)).setCell (p := ⟨b7, 0, none⟩) (Nat.le_refl _) _).setCell (p := ⟨b7, 1, none⟩) (Nat.le_refl _) _⟩
        | some q =>
          rw [hs] at HST H7 z0 z1
          obtain ⟨qA, qN⟩ := q
          simp only [bv, Option.getD_some] at z0 z1
          by_cases k2 : rN0 < qN
          · have d5 : decide (rN0 < qN) = true := by simp [k2]
            have E : Hid (bestTo n l (j + 1) = some (rA0, rN0)) := hide (by rw [HST.out]; simp [bestStep, k1, k2])
            clear hs HST
            go_wp2
            go_quiet (fail)
            go_wp2
            go_roundg (m - (j + 1))
            case measure => omega
            case rel => exact ⟨j + 1, by omega, fun h => by omega, by rw [E.out]; rfl, by go_num, by rw [E.out]; exact RunBox.set (w := wr.drewN _) H7.out, RunBox.other (RunBox.other (w := wr.drewN _) H4.out (by omega)) (by omega), ((HBW.out.trans ((Alike.drewN _ _).below _)).setCell (p := ⟨b7, 0, none⟩) (Nat.le_refl _) _).setCell (p := ⟨b7, 1, none⟩) (Nat.le_refl _) _⟩
          · have d5 : decide (rN0 < qN) = false := by simp; omega
            have E : Hid (bestTo n l (j + 1) = some (qA, qN)) := hide (by rw [HST.out]; simp [bestStep, k2])
            clear hs HST
            go_wp2
            go_quiet (fail)
            go_wp2
            go_roundg (m - (j + 1))
            case measure => omega
            case rel => exact ⟨j + 1, by omega, fun h => by omega, by rw [E.out]; try rfl, by go_num, by rw [E.out]; exact H7.out, H4.out, HBW.out.trans ((Alike.drewN _ _).below _)⟩
      · have d4 : decide (n ≤ rN0) = false := by simp; omega
        have E : Hid (bestTo n l (j + 1) = bestTo n l j) := hide (by rw [HST.out]; cases bestTo n l j <;> simp [bestStep, k1])
        generalize bestTo n l j = s at *
        clear HST
        go_wp2
        go_quiet (fail)
        go_wp2
        go_roundg (m - (j + 1))
        case measure => omega
        case rel => exact ⟨j + 1, by omega, fun h => by omega, by rw [E.out]; try rfl, by go_num, by rw [E.out]; exact H7.out, H4.out, HBW.out.trans ((Alike.drewN _ _).below _)⟩
    · have HS : Hid (bestL n l = bestTo n l j) := hide (by
        unfold bestL
        by_cases q : n < 1
        · rw [if_pos q, hn0 q]; rfl
        · rw [if_neg q, HM.out, show m = j by omega])
      have d1 : (decide ((j : Int) < (m : Int)) = false ∧ decide (j < m) = false) ∨ (decide ((j : Int) < (m : Int)) = true ∧ decide (j < m) = true ∧ decide (1 ≤ n) = false) := by
        by_cases q : j < m
        · right; simp; omega
        · left; simp; omega
      have z0 : wr.cell? ⟨b7, 0, none⟩ = some (.int .i64 (bv (bestTo n l j)).1) := cell_of_heap h7
      have z1 : wr.cell? ⟨b7, 1, none⟩ = some (.int .i64 (bv (bestTo n l j)).2) := cell_of_heap h7
      have y0 : wr.cell? ⟨b4, 0, none⟩ = some (.int .i64 0) := cell_of_heap h4
      have y1 : wr.cell? ⟨b4, 1, none⟩ = some (.int .i64 0) := cell_of_heap h4
      have yf0 : wr.frozen? ⟨b4, 0, none⟩ = false := frozen_of_heap h4
      have yf1 : wr.frozen? ⟨b4, 1, none⟩ = false := frozen_of_heap h4
      have H4 := hide h4
      have HBW := hide hbw
      generalize bestTo n l j = s at *
      clear hh h7 h4 hbw hin
      rcases d1 with ⟨d1, d2⟩ | ⟨d1, d2, d3⟩
      all_goals (
        go_wp2
        have R4 := RunBox.set (A' := (bv s).1) (N' := (bv s).2) H4.out
        have z4 : ((wr.setCell ⟨b4, 0, none⟩ (.int .i64 (bv s).1)).setCell ⟨b4, 1, none⟩ (.int .i64 (bv s).2)).cell? ⟨b4, 0, none⟩ = some (.int .i64 (bv s).1) := cell_of_heap R4
        have z5 : ((wr.setCell ⟨b4, 0, none⟩ (.int .i64 (bv s).1)).setCell ⟨b4, 1, none⟩ (.int .i64 (bv s).2)).cell? ⟨b4, 1, none⟩ = some (.int .i64 (bv s).2) := cell_of_heap R4
        have BF : Hid (Below b4 w ((wr.setCell ⟨b4, 0, none⟩ (.int .i64 (bv s).1)).setCell ⟨b4, 1, none⟩ (.int .i64 (bv s).2))) := hide (((HW1.out.trans (HBW.out.mono (by omega))).setCell (p := ⟨b4, 0, none⟩) (Nat.le_refl _) _).setCell (p := ⟨b4, 1, none⟩) (Nat.le_refl _) _)
        generalize ((wr.setCell ⟨b4, 0, none⟩ (.int .i64 (bv s).1)).setCell ⟨b4, 1, none⟩ (.int .i64 (bv s).2)) = wf at *
        refine bodyPost_ret (by simp [results, Try.results46, z4, z5, go_sem]; try rfl) rfl ?_
        refine ⟨by rw [HS.out], ?_⟩
        rw [hb]; exact BF.out)

set_option maxRecDepth 100000 in
set_option maxHeartbeats 4000000 in
theorem xfind (w : World) (x gf : Nat) (vt : Value) (a : Option Addr) (c pg : Nat) (fb : Nat → Bool) (ds : List Nat) (dn : Nat) (M : List (It Int)) (h : XAt w x gf vt a c pg fb ds dn M) (hpg : pg ≤ 4096) (n : Int) (l : List (Int × Int)) (hl : l = (runsN (fun p => !fb p) pg).map intP) :
    Calls Try.prog 17 #[.pointer (some ⟨x, 0, none⟩), .int .i64 n] w fun e w' => e = .returned (.tuple #[.int .i64 (bv (bestL n l)).1, .bool (bestL n l).isSome]) ∧ Below w.heap.size w w' := by
  have HB := hide (xbest w x gf vt a c pg fb ds dn M h hpg n l hl)
  generalize bestL n l = s at *
  clear h hl
  go_enter Try.func17, Try.ntmps17
  go_wp2_with fail
  refine HB.out.mono ?_
  rintro e w1 ⟨rfl, b1⟩
  have HB1 := hide b1
  have f1 : (w1.alloc (.cells #[.int .i64 (bv s).1, .int .i64 (bv s).2] 84)).cell? ⟨w1.heap.size, 0, none⟩ = some (.int .i64 (bv s).1) := cell_of_heap (heap_alloc_at _ _)
  clear b1 HB
  go_wp2
  go_ret2
  exact ⟨rfl, HB1.out.alloc HB1.out.size _⟩
end Go.Proofs.Ythcfmpjmgheieaa

namespace Go.Proofs.Ythcfmpjmgheieaa
open Go.RowKit

/-- The pages from A to j are set to b. -/
def markF (fb : Nat → Bool) (A j : Nat) (b : Bool) : Nat → Bool := fun q => if A ≤ q ∧ q < j then b else fb q
theorem markF_nil (fb : Nat → Bool) (A : Nat) (b : Bool) : markF fb A A b = fb := by
  funext q; unfold markF; rw [if_neg (by omega)]
theorem markF_next (fb : Nat → Bool) (A j : Nat) (b : Bool) (h : A ≤ j) : (fun q => if q = j then b else markF fb A j b q) = markF fb A (j + 1) b := by
  funext q
  unfold markF
  by_cases e : q = j
  · rw [if_pos e, if_pos (by omega)]
  · rw [if_neg e]
    by_cases k : A ≤ q ∧ q < j
    · rw [if_pos k, if_pos (by omega)]
    · rw [if_neg k, if_neg (by omega)]

set_option maxRecDepth 100000 in
set_option maxHeartbeats 4000000 in
theorem xtakeArg (w : World) (x : Nat) (n : Int) (hn : n < 1) :
    Calls Try.prog 12 #[.pointer (some ⟨x, 0, none⟩), .int .i64 n] w fun e w' => e = .returned (.tuple #[.int .i64 0, .int .i64 1]) ∧ w' = w := by
  have d1 : decide (n < 1) = true := by simp [hn]
  go_enter Try.func12, Try.ntmps12
  go_wp2
  go_ret2
  exact ⟨rfl, rfl⟩

set_option maxRecDepth 100000 in
set_option maxHeartbeats 4000000 in
theorem xtakeNo (w : World) (x gf : Nat) (vt : Value) (a : Option Addr) (c pg : Nat) (fb : Nat → Bool) (ds : List Nat) (dn : Nat) (M : List (It Int)) (h : XAt w x gf vt a c pg fb ds dn M) (hpg : pg ≤ 4096) (n : Int) (hn : 1 ≤ n) (l : List (Int × Int)) (hl : l = (runsN (fun p => !fb p) pg).map intP) (hb : bestL n l = none) :
    Calls Try.prog 12 #[.pointer (some ⟨x, 0, none⟩), .int .i64 n] w fun e w' => e = .returned (.tuple #[.int .i64 0, .int .i64 3]) ∧ Below w.heap.size w w' := by
  have HB := hide (xbest w x gf vt a c pg fb ds dn M h hpg n l hl)
  rw [hb] at HB
  have d1 : decide (n < 1) = false := by simp; omega
  clear h hl hb
  go_enter Try.func12, Try.ntmps12
  go_wp2_with fail
  refine HB.out.mono ?_
  rintro e w1 ⟨rfl, b1⟩
  have HB1 := hide b1
  clear b1 HB
  go_wp2
  go_ret2
  exact ⟨rfl, HB1.out.alloc HB1.out.size _⟩

set_option maxRecDepth 100000 in
set_option maxHeartbeats 4000000 in
theorem xtakeYes (w : World) (x gf : Nat) (vt : Value) (a : Option Addr) (c pg : Nat) (fb : Nat → Bool) (ds : List Nat) (dn : Nat) (M : List (It Int)) (h : XAt w x gf vt a c pg fb ds dn M) (hpg : pg ≤ 4096) (n A N : Nat) (hn : 1 ≤ n) (hnN : n ≤ N) (hAN : A + N ≤ pg)
    (l : List (Int × Int)) (hl : l = (runsN (fun p => !fb p) pg).map intP) (hb : bestL (n : Int) l = some ((A : Int), (N : Int))) (key : Int) (hkey : 8192 * (N : Int) + (A : Int) = key) (k : Int) (d : Nat) (v : Int) (hg : getL key M = some (k, d, v)) (hM : M.length ≤ 1000000) (hdn : dn ≤ 1000000000)
    (hg2 : n < N → getL (8192 * ((N : Int) - (n : Int)) + ((A : Int) + (n : Int))) (delL key M) = none) :
    Calls Try.prog 12 #[.pointer (some ⟨x, 0, none⟩), .int .i64 (n : Int)] w fun e w' => e = .returned (.tuple #[.int .i64 (A : Int), .int .i64 0]) ∧
      XTurned w w' x gf vt a c pg (markF fb A (A + n) false) ds (if n < N then dn + 1 else dn) (if n < N then insL (8192 * ((N : Int) - (n : Int)) + ((A : Int) + (n : Int))) (ds.getD dn 0) ((A : Int) + (n : Int)) (delL key M) else delL key M) := by
  have HB := hide (xbest w x gf vt a c pg fb ds dn M h hpg (n : Int) l hl)
  rw [hb] at HB
  simp only [bv, Option.getD_some, Option.isSome_some] at HB
  have d1 : decide ((n : Int) < 1) = false := by simp; omega
  have HX := hide h
  have HG := hide hg
  have HG2 := hide hg2
  have HK := hide hkey
  have hx := lt_of_heap h.head
  have hgf := lt_of_heap h.free
  clear h hl hb hg hg2 hkey
  go_enter Try.func12, Try.ntmps12
  go_wp2_with fail
  refine HB.out.mono ?_
  rintro e w1 ⟨rfl, b1⟩
  have bB : Below w.heap.size w (w1.alloc (.cells #[.int .i64 (A : Int), .int .i64 (N : Int)] 84)) := b1.alloc b1.size _
  have hR2 : RunBox w1.heap.size (A : Int) (N : Int) (w1.alloc (.cells #[.int .i64 (A : Int), .int .i64 (N : Int)] 84)) := heap_alloc_at _ _
  obtain ⟨b6, hb6⟩ : ∃ b, w1.heap.size = b := ⟨_, rfl⟩
  have hxb : x < b6 := by rw [← hb6]; exact Nat.lt_of_lt_of_le hx b1.size
  have hgb : gf < b6 := by rw [← hb6]; exact Nat.lt_of_lt_of_le hgf b1.size
  rw [hb6] at hR2
  have HR2 := hide hR2
  have HBB := hide bB
  clear b1 HB bB hR2
  go_wp2
  generalize (w1.alloc (.cells #[.int .i64 (A : Int), .int .i64 (N : Int)] 84)) = w2 at *
  have J0 : Hid (RunBox b6 (A : Int) (N : Int) w2.drew) := hide HR2.out
  have u1 : ∀ u : Mem (RunBox b6 (A : Int) (N : Int)), u.w'.cell? ⟨b6, 0, none⟩ = some (.int .i64 (A : Int)) := fun u => cell_of_heap u.h
  have u2 : ∀ u : Mem (RunBox b6 (A : Int) (N : Int)), u.w'.cell? ⟨b6, 1, none⟩ = some (.int .i64 (N : Int)) := fun u => cell_of_heap u.h
  have hne : Nonempty (Mem (RunBox b6 (A : Int) (N : Int))) := ⟨⟨_, J0.out⟩⟩
  refine region_start (J := RunBox b6 (A : Int) (N : Int)) (by kernel_rfl) ?_
  refine stretch (fuel := 1) (by kernel_rfl) (fun _ _ _ _ _ h => h) J0.out [0, 1, 2, 3, 4, 5, 6, 7, 8] (by kernel_rfl) ?_
  simp only [List.filterMap_cons, List.filterMap_nil, List.getElem?_toArray, List.getElem?_cons_zero, List.getElem?_cons_succ]
  show wpQuiet _ _ _ _ [_, _, _, _, _, _, _, _, _] _
  repeat (go_big_quiet_step (fail))
  refine wpQuiet_nil ?_
  refine wpAnyJ_writer (i := 9) rfl (by kernel_rfl) (fun K hK => ?_)
  go_simp
  have X2 := HX.out.below (w' := w2.drew) (HBB.out.trans ((Alike.drewN w2 1).below _))
  rw [HK.out]
  refine (ddropYes _ x 1 vt M X2.tree key k d v HG.out hM).mono ?_
  rintro e w3 ⟨rfl, v3, W3, rfl, b3, own3⟩
  have hJ3 : RunBox b6 (A : Int) (N : Int) (W3.setCell ⟨x, 1, none⟩ v3) := (heap_setCell_ne (by omega) _).trans ((b3.block b6 (lt_of_heap J0.out)).trans J0.out)
  have HJ3 := hide hJ3
  have HT3 := hide (XTurned.left (HBB.out.trans ((Alike.drewN w2 1).below _)) (X2.putT b3 own3 (delL_len X2.ris HG.out) (delL_rising X2.ris)))
  refine hK _ _ hJ3 ?_
  clear hK K
  refine wpAnyJ_done (by kernel_rfl) ?_
  clear b3 own3 hJ3 X2 u1 u2 hne J0 HR2 HBB
  generalize (W3.setCell ⟨x, 1, none⟩ v3) = w3 at *
  have z0 : w3.cell? ⟨b6, 0, none⟩ = some (.int .i64 (A : Int)) := cell_of_heap HJ3.out
  go_wp2
  clear z0
  go_loopg [8] n (fun g r8 wr => ∃ j : Nat, j + g = A + n ∧ A ≤ j ∧ r8 = .int .i64 (j : Int) ∧ Hid (RunBox b6 (A : Int) (N : Int) wr ∧ XTurned w wr x gf vt a c pg (markF fb A j false) ds dn (delL key M)))
  case atStart => exact ⟨A, by omega, Nat.le_refl _, rfl, HJ3.out, by rw [markF_nil]; exact HT3.out⟩
  case round =>
    clear HJ3 HT3
    obtain ⟨j, hj, hAj, rfl, hh⟩ := hrel
    obtain ⟨hR, hT⟩ := hh.out
    obtain ⟨v4, X4, o4, m4⟩ := hT
    have z0 : wr.cell? ⟨b6, 0, none⟩ = some (.int .i64 (A : Int)) := cell_of_heap hR
    have z1 : wr.cell? ⟨b6, 1, none⟩ = some (.int .i64 (N : Int)) := cell_of_heap hR
    have y0 : wr.cell? ⟨x, 0, none⟩ = some (.slice (some ⟨gf, 0, none⟩) pg pg) := cell_of_heap X4.head
    have HR := hide hR
    by_cases hin : j < A + n
    · have y1 := X4.cell (p := j) (by omega)
      have y2 : wr.frozen? ⟨gf, j, none⟩ = false := frozen_of_heap X4.free
      have d2 : decide ((j : Int) < (A : Int) + (n : Int)) = true := by simp; omega
      have HT := hide (XTurned.chain o4 m4 (X4.mark j false))
      clear hh hR X4 o4 m4
      go_wp2
      go_roundg (A + n - (j + 1))
      case measure => omega
      case rel => exact ⟨j + 1, by omega, by omega, by go_num, RunBox.other HR.out (by omega), by rw [← markF_next _ _ _ _ hAj]; exact HT.out⟩
    · have hje : j = A + n := by omega
      have d2 : decide ((j : Int) < (A : Int) + (n : Int)) = false := by simp; omega
      rw [hje] at X4
      have HO := hide o4
      have HM4 := hide m4
      have HX4 := hide X4
      clear hh hR X4 o4 m4 hin
      by_cases hlt : n < N
      · have d3 : decide ((n : Int) < (N : Int)) = true := by simp; omega
        have d4 : decide (n < N) = true := by simp; omega
        have HLE := hide (delL_le (L := M) (key := key))
        have HAD := hide (xadd wr x gf v4 a c pg _ ds dn (delL key M) HX4.out ((A : Int) + (n : Int)) ((N : Int) - (n : Int)) (by omega) (by omega) (HG2.out hlt) (by have := HLE.out; omega) hdn)
        have hRb := HR.out
        go_wp2_with fail
        refine HAD.out.mono ?_
        rintro e w5 ⟨rfl, hT5⟩
        obtain ⟨v5, X5, o5, m5⟩ := hT5
        have z5 : w5.cell? ⟨b6, 0, none⟩ = some (.int .i64 (A : Int)) := cell_of_heap ((o5.block b6 (lt_of_heap hRb) (by omega)).trans hRb)
        have HT5 := hide (XTurned.chain HO.out HM4.out ⟨v5, X5, o5, m5⟩)
        clear X5 o5 m5 z0 z1 y0 hRb HAD
        go_wp2
        go_ret2
        exact ⟨rfl, HT5.out⟩
      · have d3 : decide ((n : Int) < (N : Int)) = false := by simp; omega
        have d4 : decide (n < N) = false := by simp; omega
        go_wp2
        go_ret2
        exact ⟨rfl, _, HX4.out, HO.out, HM4.out⟩
end Go.Proofs.Ythcfmpjmgheieaa

namespace Go.Proofs.Ythcfmpjmgheieaa
open Go.RowKit

set_option maxRecDepth 100000 in
set_option maxHeartbeats 4000000 in
theorem xputArg (w : World) (x gf : Nat) (vt : Value) (a : Option Addr) (c pg : Nat) (fb : Nat → Bool) (ds : List Nat) (dn : Nat) (M : List (It Int)) (h : XAt w x gf vt a c pg fb ds dn M) (hpg : pg ≤ 4096) (t n : Int) (hv : ¬ (1 ≤ n ∧ 0 ≤ t ∧ n ≤ (pg : Int) - t)) :
    Calls Try.prog 14 #[.pointer (some ⟨x, 0, none⟩), .int .i64 t, .int .i64 n] w fun e w' => e = .returned (.int .i64 1) ∧ w' = w := by
  have c0 : w.cell? ⟨x, 0, none⟩ = some (.slice (some ⟨gf, 0, none⟩) pg pg) := cell_of_heap h.head
  clear h
  by_cases k1 : t < 0
  case' pos =>
    have d1 : decide (t < 0) = true := by simp [k1]
  case' neg =>
    have d1 : decide (t < 0) = false := by simp; omega
    by_cases k2 : n < 1
    case' pos =>
      have d2 : decide (n < 1) = true := by simp [k2]
    case' neg =>
      have d2 : decide (n < 1) = false := by simp; omega
      by_cases k3 : (pg : Int) ≤ t
      case' pos =>
        have d3 : decide ((pg : Int) ≤ t) = true := by simp [k3]
      case' neg =>
        have d3 : decide ((pg : Int) ≤ t) = false := by simp; omega
        have d4 : decide ((pg : Int) - t < n) = true := by simp; omega
  all_goals (
    clear hv
    go_enter Try.func14, Try.ntmps14
    go_wp2
    go_ret
    exact ⟨rfl, rfl⟩)

set_option maxRecDepth 100000 in
set_option maxHeartbeats 4000000 in
theorem xputTwice (w : World) (x gf : Nat) (vt : Value) (a : Option Addr) (c pg : Nat) (fb : Nat → Bool) (ds : List Nat) (dn : Nat) (M : List (It Int)) (h : XAt w x gf vt a c pg fb ds dn M) (hpg : pg ≤ 4096) (t n : Nat) (hn : 1 ≤ n) (htn : t + n ≤ pg) (hp : ∃ p, t ≤ p ∧ p < t + n ∧ fb p = true) :
    Calls Try.prog 14 #[.pointer (some ⟨x, 0, none⟩), .int .i64 (t : Int), .int .i64 (n : Int)] w fun e w' => e = .returned (.int .i64 4) ∧ w' = w := by
  have c0 : w.cell? ⟨x, 0, none⟩ = some (.slice (some ⟨gf, 0, none⟩) pg pg) := cell_of_heap h.head
  have HC := hide (fun p (hp : p < pg) => h.cell hp)
  have HP := hide hp
  have d1 : decide ((t : Int) < 0) = false := by simp
  have d2 : decide ((n : Int) < 1) = false := by simp; omega
  have d3 : decide ((pg : Int) ≤ (t : Int)) = false := by simp; omega
  have d4 : decide ((pg : Int) - (t : Int) < (n : Int)) = false := by simp; omega
  clear h hp
  go_enter Try.func14, Try.ntmps14
  go_wp2
  go_loopg [7] n (fun m r7 wr => ∃ j : Nat, j + m = t + n ∧ t ≤ j ∧ r7 = .int .i64 (j : Int) ∧ wr = w ∧ Hid (∀ p, t ≤ p → p < j → fb p = false))
  case atStart => exact ⟨t, by omega, Nat.le_refl _, rfl, rfl, (fun p h1 h2 => (by omega))⟩
  case round =>
    obtain ⟨j, hj, htj, rfl, rfl, hno⟩ := hrel
    by_cases hlt : j < t + n
    · have c1 := HC.out j (by omega)
      have d5 : decide ((j : Int) < (t : Int) + (n : Int)) = true := by simp; omega
      cases hb : fb j with
      | true =>
        rw [hb] at c1
        clear hb hno
        go_wp2
        go_ret
        exact ⟨rfl, rfl⟩
      | false =>
        rw [hb] at c1
        have HN : Hid (∀ p, t ≤ p → p < j + 1 → fb p = false) := hide (fun p h1 h2 => by
          by_cases e : p = j
          · rw [e]; exact hb
          · exact hno.out p h1 (by omega))
        clear hb hno
        go_wp2
        go_roundg (t + n - (j + 1))
        case measure => omega
        case rel => exact ⟨j + 1, by omega, by omega, by go_num, rfl, HN⟩
    · exfalso
      obtain ⟨p, h1, h2, h3⟩ := HP.out
      rw [hno.out p h1 (by omega)] at h3
      cases h3
end Go.Proofs.Ythcfmpjmgheieaa
