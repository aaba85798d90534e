/- Package runs, beside other things; SameRuns. -/
import Derived.Test.YtafamfjgehnddaaRunPut
import Derived.Test.YtafamfjgehnddaaRunNew
namespace Go.Proofs.Ytafamfjgehnddaa
open Go.RowKit

/-- A list of runs that lies by itself. -/
def RV (v : Value) (l : List (Int × Int)) : Res := fun W G => RunsV W v l ∧ ∀ x, G x ↔ l ≠ [] ∧ ∃ a m c, v = .slice (some a) m c ∧ a.block = x
theorem Loc.rv {v : Value} {l : List (Int × Int)} : Loc (RV v l) := by
  refine ⟨fun {w w' M G} ⟨h1, h2⟩ o hn => ⟨?_, h2⟩, fun {w G x} ⟨h1, h2⟩ hx => ?_⟩
  · by_cases hl : l = []
    · subst hl
      obtain ⟨a, c, e, _⟩ := h1
      exact ⟨a, c, e, fun h => absurd rfl h⟩
    · exact h1.kept o (fun a m c e => hn _ ((h2 _).2 ⟨hl, a, m, c, e, rfl⟩))
  · obtain ⟨hl, a, m, c, e, rfl⟩ := (h2 x).1 hx
    obtain ⟨a', c', e', h⟩ := h1
    obtain ⟨g, e2, hg, _⟩ := h hl
    rw [e] at e'; cases e'
    cases e2; exact hg
/-- A list of nodes that lies by itself. -/
def NV (v : Value) (l : List (Int × Nat)) : Res := fun W G => NodesV W v l ∧ ∀ x, G x ↔ l ≠ [] ∧ ∃ a m c, v = .slice (some a) m c ∧ a.block = x
theorem Loc.nv {v : Value} {l : List (Int × Nat)} : Loc (NV v l) := by
  refine ⟨fun {w w' M G} ⟨h1, h2⟩ o hn => ⟨?_, h2⟩, fun {w G x} ⟨h1, h2⟩ hx => ?_⟩
  · obtain ⟨a, c, e, h⟩ := h1
    refine ⟨a, c, e, fun hne => ?_⟩
    obtain ⟨g, e2, hg, hc⟩ := h hne
    have hg' : ¬ M g := hn g ((h2 g).2 ⟨hne, ⟨g, 0, none⟩, l.length, c, by rw [e, e2], rfl⟩)
    exact ⟨g, e2, Nat.lt_of_lt_of_le hg o.size, fun i hi => ⟨(o.cell (p := ⟨g, i * 2, none⟩) hg hg').trans (hc i hi).1, (o.cell (p := ⟨g, i * 2 + 1, none⟩) hg hg').trans (hc i hi).2⟩⟩
  · obtain ⟨hl, a, m, c, e, rfl⟩ := (h2 x).1 hx
    obtain ⟨a', c', e', h⟩ := h1
    obtain ⟨g, e2, hg, _⟩ := h hl
    rw [e] at e'; cases e'
    cases e2; exact hg
/-- Something new, beside the rest. -/
theorem Own.beside {R1 R2 R : Res} {w0 w w' : World} {G : Nat → Prop} (l1 : Loc R1) (l2 : Loc R) (h : Own (Sep R1 R) w0 w) (h2 : R2 w' G) (hG : ∀ x, G x → w.heap.size ≤ x) (b : Below w.heap.size w w') : Own (Sep R1 (Sep R2 R)) w0 w' := by
  obtain ⟨GG, ⟨G1, G3, a1, a3, d, e⟩, h0, h3⟩ := h
  have k1 := l1.kept a1 (Below.only b (fun _ => False)) (fun _ _ h => h)
  have k3 := l2.kept a3 (Below.only b (fun _ => False)) (fun _ _ h => h)
  refine ⟨fun x => G1 x ∨ (G x ∨ G3 x), ⟨G1, fun x => G x ∨ G3 x, k1, ⟨G, G3, h2, k3, fun x hx q => ?_, fun _ => Iff.rfl⟩, fun x hx q => ?_, fun _ => Iff.rfl⟩, fun x hx => ?_, h3.trans (b.mono h3.size)⟩
  · have := l2.lt a3 q; have := hG x hx; omega
  · rcases q with q | q
    · have := l1.lt a1 hx; have := hG x q; omega
    · exact d x hx q
  · rcases hx with hx | hx | hx
    · exact h0 x ((e x).2 (.inl hx))
    · exact Nat.le_trans h3.size (hG x hx)
    · exact h0 x ((e x).2 (.inr hx))
theorem Own.left {R1 R2 : Res} {w0 w : World} (h : Own (Sep R1 R2) w0 w) : ∃ G, R1 w G := by obtain ⟨_, ⟨G1, _, a, _⟩, _⟩ := h; exact ⟨G1, a⟩
theorem Own.right {R1 R2 : Res} {w0 w : World} (h : Own (Sep R1 R2) w0 w) : ∃ G, R2 w G := by obtain ⟨_, ⟨_, G2, _, a, _⟩, _⟩ := h; exact ⟨G2, a⟩
theorem Own.mid {R1 R2 R3 : Res} {w0 w : World} (h : Own (Sep R1 (Sep R2 R3)) w0 w) : ∃ G, R2 w G := by obtain ⟨_, G2, _, a, _⟩ := h.right; exact ⟨G2, a⟩
/-- Something is let go. -/
theorem Own.drop2 {R1 R2 R3 : Res} {w0 w : World} (h : Own (Sep R1 (Sep R2 R3)) w0 w) : Own (Sep R1 R3) w0 w := by
  obtain ⟨G, ⟨G1, _, a, ⟨G2, G3, b1, b2, b3, b4⟩, c, d⟩, h2, h3⟩ := h
  exact ⟨fun x => G1 x ∨ G3 x, ⟨G1, G3, a, b2, fun x hx h => c x hx ((b4 x).2 (.inr h)), fun _ => Iff.rfl⟩, fun x hx => h2 x ((d x).2 (hx.imp (fun q => q) (fun q => (b4 x).2 (.inr q)))), h3⟩
theorem Own.drop1 {R1 R2 : Res} {w0 w : World} (h : Own (Sep R1 R2) w0 w) : Own R2 w0 w := by
  obtain ⟨G, ⟨G1, G2, a, b, c, d⟩, h2, h3⟩ := h
  exact ⟨G2, b, fun x hx => h2 x ((d x).2 (.inr hx)), h3⟩

/-- What Take and Find answer, and what is left. -/
def takeA (n : Int) (L : RL) : Int × Int := if n < 1 then (0, 1) else match fitL n L with | none => (0, 3) | some i => (rA i.1, 0)
def takeS (ds : List Nat) (n : Int) (dn : Nat) (L : RL) : Nat × RL := if n < 1 then (dn, L) else match fitL n L with | none => (dn, L) | some i => (if n < rN i.1 then dn + 1 else dn, cutL i n (ds.getD dn 0) L)
def findA (n : Int) (L : RL) : Int × Bool := if n < 1 then (0, false) else match fitL n L with | none => (0, false) | some i => (rA i.1, true)
def putV (pg : Nat) (x n : Int) : Bool := decide (1 ≤ n ∧ 0 ≤ x ∧ n ≤ (pg : Int) - x)
def putA (pg : Nat) (x n : Int) (L : RL) : Int := if putV pg x n = false then 1 else if L.any (fun i => hits x n i.1) then 4 else 0
def putS (pg : Nat) (ds : List Nat) (x n : Int) (dn : Nat) (L : RL) : Nat × RL := if putA pg x n L = 0 then (dn + 1, laidL x n (ds.getD dn 0) L) else (dn, L)

section
variable {R : Res} {w0 w : World} {r pg : Nat} {ds : List Nat} {dn : Nat} {L : RL}

theorem newP (l : Loc R) (h : Own R w0 w) (h1 : 1 ≤ pg) (h2 : pg ≤ 4096) (hl : ds.length ≤ 1000000000) (a : Option Addr) (c : Nat) (hz : a = none → ds = [] ∧ c = 0) (hd : DrawsAt w a ds) :
    Calls Try.prog 57 #[.int .i64 (pg : Int), .slice a ds.length c] w fun e w' => ∃ r, e = .returned (.pointer (some ⟨r, 0, none⟩)) ∧ Own (Sep (RR r pg ds 1 [(kOf 0 pg, ds.getD 0 0, ())]) R) w0 w' :=
  (new10 w pg h1 h2 ds hl a c hz hd.into).mono fun _ _ ⟨r, _, _, _, _, e, hR, hn, b⟩ => ⟨r, e, h.runsNew l hR hn b⟩
end

/-- Runs that calls may still be made on, m of them. -/
structure Fit (m pg : Nat) (ds : List Nat) (dn : Nat) (L : RL) : Prop where
  pos : 1 ≤ pg
  most : pg ≤ 4096
  good : Good pg L
  len : L.length ≤ m
  dn : dn ≤ m
  ds : ds.length ≤ 1000000000
theorem Fit.fine {m pg : Nat} {ds : List Nat} {dn : Nat} {L : RL} (h : Fit m pg ds dn L) (hm : m ≤ 100000) : Fine pg ds dn L := ⟨h.pos, h.most, h.good, Nat.le_trans h.len hm, Nat.le_trans h.dn (by omega), h.ds⟩
theorem Fit.mono {m m' pg : Nat} {ds : List Nat} {dn : Nat} {L : RL} (h : Fit m pg ds dn L) (hm : m ≤ m') : Fit m' pg ds dn L := ⟨h.pos, h.most, h.good, Nat.le_trans h.len hm, Nat.le_trans h.dn hm, h.ds⟩
theorem Fit.new {pg : Nat} {ds : List Nat} (h1 : 1 ≤ pg) (h2 : pg ≤ 4096) (hl : ds.length ≤ 1000000000) {d : Nat} : Fit 1 pg ds 1 [(kOf 0 pg, d, ())] := ⟨h1, h2, Good.one (by omega), Nat.le_refl _, Nat.le_refl _, hl⟩
theorem Fit.take {m pg : Nat} {ds : List Nat} {dn : Nat} {L : RL} (h : Fit m pg ds dn L) (n : Int) : Fit (m + 1) pg ds (takeS ds n dn L).1 (takeS ds n dn L).2 := by
  unfold takeS
  by_cases h1 : n < 1
  · simp only [h1, if_true]; exact h.mono (by omega)
  · simp only [h1, if_false]
    cases hg : fitL n L with
    | none => exact h.mono (by omega)
    | some i =>
      obtain ⟨q1, q2, _⟩ := fit_some h.good.ris hg
      have hm : (pg : Int) ≤ 4096 := by have := h.most; omega
      refine ⟨h.pos, h.most, h.good.cut hm q1 (by omega) _, ?_, ?_, h.ds⟩
      · have := h.len
        simp only [cutL]
        split
        · rw [insL_length]; have := delL_le (L := L) (key := i.1); omega
        · have := delL_le (L := L) (key := i.1); omega
      · have := h.dn
        show (if n < rN i.1 then dn + 1 else dn) ≤ m + 1
        split <;> omega
theorem dels_len {ks : List Int} {L : RL} : (delsL ks L).length ≤ L.length := by
  unfold delsL
  induction ks generalizing L with
  | nil => exact Nat.le_refl _
  | cons k ks ih => exact Nat.le_trans ih delL_le
theorem put_zero {pg : Nat} {x n : Int} {L : RL} (h : putA pg x n L = 0) : 1 ≤ n ∧ 0 ≤ x ∧ n ≤ (pg : Int) - x ∧ ∀ i ∈ L, hits x n i.1 = false := by
  unfold putA at h
  cases hv : putV pg x n with
  | false => simp [hv] at h
  | true =>
    have hv' : 1 ≤ n ∧ 0 ≤ x ∧ n ≤ (pg : Int) - x := by simpa [putV] using hv
    refine ⟨hv'.1, hv'.2.1, hv'.2.2, fun i hi => ?_⟩
    cases hh : hits x n i.1 with
    | false => rfl
    | true =>
      have ha : L.any (fun i => hits x n i.1) = true := List.any_eq_true.2 ⟨i, hi, hh⟩
      simp [hv, ha] at h
theorem Fit.put {m pg : Nat} {ds : List Nat} {dn : Nat} {L : RL} (h : Fit m pg ds dn L) (x n : Int) : Fit (m + 1) pg ds (putS pg ds x n dn L).1 (putS pg ds x n dn L).2 := by
  unfold putS
  by_cases h0 : putA pg x n L = 0
  · simp only [h0, if_true]
    obtain ⟨q1, q2, q3, q4⟩ := put_zero h0
    have hm : (pg : Int) ≤ 4096 := by have := h.most; omega
    refine ⟨h.pos, h.most, h.good.put hm q2 q1 (by omega) q4 _, ?_, ?_, h.ds⟩
    · have := h.len
      simp only [laidL, insL_length]
      have := dels_len (ks := besK x n L) (L := L)
      omega
    · have := h.dn; show dn + 1 ≤ m + 1; omega
  · simp only [h0, if_false]; exact h.mono (by omega)
end Go.Proofs.Ytafamfjgehnddaa
