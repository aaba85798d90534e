/- slices.SortFunc and slices.SortedFunc of runs; List. Package runs: Put. Package runs: New; the draws of the laws. Package runs, beside other things; SameRuns. Package arena: the arena in memory, its calls. Things beside one another, in any order. (Of any program.) A store, an arena's head, as such things. A new arena; its number of the cycle; its store and its runs, turned. awake: the document's example. The document's example of an arena. What ArenaOwn wants: numbers, and a block that lies beside. -/
import Derived.Test.YtafamfjgehnddaaRunRow
import Derived.Shelf.SlSortCmp.NoneTotal
import Derived.Shelf.Lay
import Derived.Ground.SlsfProg
import Derived.Deep.CutRange
import Derived.Deep.CutBlock
import Derived.Test.YtafamfjgehnddaaRunLay
import Derived.Test.YtafamfjgehnddaaPhaseIn
import Derived.Sort.LoopGhostIn
import Derived.Sort.QuietIn
import Derived.OwnWalkIn
import Derived.Shelf.Abstract
import Derived.Lib.SliceRun
import Derived.WalkSmall
import Derived.Laws.AppendOwn
import Derived.Test.YtafamfjgehnddaaLayFns
import Derived.Test.YtafamfjgehnddaaStoreMade
import Derived.Test.YtafamfjgehnddaaTreSep
import Derived.Test.YtafamfjgehnddaaPhase
namespace Go.Proofs.Ytafamfjgehnddaa
open Go.RowKit Go.Shelf

/-- Which comes first? -/
def cmpI (x y : Int) : Int := if x < y then -1 else if y < x then 1 else 0
def encR (x : Int × Int) : List Value := [.int .i64 x.1, .int .i64 x.2]
def cmpR (x y : Int × Int) : Int := cmpI x.1 y.1
theorem ltR (x y : Int × Int) : ltOf cmpR x y = decide (x.1 < y.1) := by
  unfold ltOf cmpR cmpI
  by_cases h1 : x.1 < y.1
  · simp [h1]
  · by_cases h2 : y.1 < x.1 <;> simp [h1, h2]
theorem swoR : Sort.SWO (ltOf cmpR) where
  irrefl x := by rw [ltR]; simp
  trans x y z h1 h2 := by rw [ltR] at *; simp at *; omega
  ntrans x y z h1 h2 := by rw [ltR] at *; simp at *; omega

/-- A value that is such a list of runs. -/
def RunsV (W : World) (v : Value) (l : List (Int × Int)) : Prop := ∃ a c, v = .slice a l.length c ∧ (l ≠ [] → ∃ g, a = some ⟨g, 0, none⟩ ∧ g < W.heap.size ∧ ∀ i, i < l.length → W.cell? ⟨g, i * 2, none⟩ = some (.int .i64 (l.getD i (0, 0)).1) ∧ W.cell? ⟨g, i * 2 + 1, none⟩ = some (.int .i64 (l.getD i (0, 0)).2))
theorem RunsV.kept {W W' : World} {v : Value} {l : List (Int × Int)} {M : Nat → Prop} (h : RunsV W v l) (ho : Only M W W') (hM : ∀ a m c, v = .slice (some a) m c → ¬ M a.block) : RunsV W' v l := by
  obtain ⟨a, c, e, h⟩ := h
  refine ⟨a, c, e, fun hne => ?_⟩
  obtain ⟨g, e2, h2, h3⟩ := h hne
  have hg : ¬ M g := hM ⟨g, 0, none⟩ l.length c (by rw [e, e2])
  exact ⟨g, e2, Nat.lt_of_lt_of_le h2 ho.size, fun i hi => ⟨(ho.cell (p := ⟨g, i * 2, none⟩) h2 hg).trans (h3 i hi).1, (ho.cell (p := ⟨g, i * 2 + 1, none⟩) h2 hg).trans (h3 i hi).2⟩⟩
theorem RunsV.below {W W' : World} {v : Value} {l : List (Int × Int)} (h : RunsV W v l) (hb : Below W.heap.size W W') : RunsV W' v l := h.kept (Below.only hb (fun _ => False)) (fun _ _ _ _ h => h)

theorem holds_of_owns {W : World} {base g cap n : Nat} {l : List (Int × Int)} (h : W.ownsRow base 147 2 (.slice (some ⟨g, 0, none⟩) n cap) n (pairsI l)) (hl : l.length = n) : Sort.HoldsK encR 2 W g 0 l.toArray := by
  intro j hj
  rw [Sort.size_flatK] at hj
  simp only [List.size_toArray] at hj
  have hd : j / 2 < l.length := by omega
  rw [Sort.get_flatK _ _ _ _ (by simpa using hj), Nat.zero_add]
  refine ⟨?_, h.frozenAt j⟩
  rw [World.ownsRow.cellAt h j (by omega)]
  have hg : (l.toArray[j / 2]!) = l.getD (j / 2) (0, 0) := by simp [List.getD, hd]
  rw [hg]
  obtain ⟨q1, q2⟩ := pairsI_get l (j / 2) hd
  rcases Nat.mod_two_eq_zero_or_one j with e | e
  · rw [show j = j / 2 * 2 from by omega, q1]
    simp [encR]
  · rw [show j = j / 2 * 2 + 1 from by omega, q2, show (j / 2 * 2 + 1) / 2 = j / 2 from by omega, show (j / 2 * 2 + 1) % 2 = 1 from by omega]
    simp [encR]
theorem runs_of_holds {W : World} {g cap : Nat} {l : List (Int × Int)} (h : Sort.HoldsK encR 2 W g 0 l.toArray) (hg : g < W.heap.size) : RunsV W (.slice (some ⟨g, 0, none⟩) l.length cap) l := by
  refine ⟨_, _, rfl, fun _ => ⟨g, rfl, hg, fun i hi => ?_⟩⟩
  have e : (l.toArray[i]!) = l.getD i (0, 0) := by simp [List.getD, hi]
  have h0 := (Sort.HoldsK.cell h (i := i) (c := 0) (by simpa using hi) (by decide)).1
  have h1 := (Sort.HoldsK.cell h (i := i) (c := 1) (by simpa using hi) (by decide)).1
  rw [e] at h0 h1
  simp only [Nat.zero_add, Nat.add_zero] at h0 h1
  exact ⟨h0, h1⟩
theorem sorted_below {w : World} {b g n : Nat} {os : Array Obj} (d : Array (Int × Int)) (hb : b ≤ g) (hw : b ≤ w.heap.size) : Below b w (sortWorldK encR 2 w g 0 n d os) := by
  refine ⟨rfl, rfl, rfl, ?_, fun k hk => ?_⟩
  · simp [sortWorldK, Sort.grow, Sort.putRowK, Sort.putRow, Sort.mapBlock, Sort.ahead]
  · have : g ≠ k := by omega
    unfold sortWorldK
    rw [Sort.heap_grow_old _ _ (by simp [Sort.putRowK, Sort.putRow, Sort.mapBlock, Sort.ahead]; omega)]
    simp [Sort.putRowK, Sort.putRow, Sort.mapBlock, Sort.ahead, Array.getElem?_modify, this]

attribute [local go_sem] Oper.semAt_some

end Go.Proofs.Ytafamfjgehnddaa

namespace Go.Proofs.Ytafamfjgehnddaa
open Go.RowKit

attribute [local go_sem] Oper.semAt_some

def PutS (B : Nat) (q : Prop) : Res := fun W G => q ∧ Boxed W (B + 1) 68 (.int .i64 4) ∧ ∀ z, G z ↔ z = B + 1
theorem Loc.putS {B : Nat} {q : Prop} : Loc (PutS B q) :=
  ⟨fun ⟨h0, h1, h2⟩ o hn => ⟨h0, (o.block _ h1.lt (hn _ ((h2 _).2 rfl))).trans h1, h2⟩, fun ⟨_, h1, h2⟩ hz => by have := (h2 _).1 hz; subst this; exact h1.lt⟩
end Go.Proofs.Ytafamfjgehnddaa

namespace Go.Proofs.Ytafamfjgehnddaa
open Go.RowKit

def drawVals (ds : List Nat) : List Value := ds.map fun (d : Nat) => Value.int .u32 (d : Int)
theorem drawVals_length (ds : List Nat) : (drawVals ds).length = ds.length := by simp [drawVals]
theorem infoU32 : (Try.prog.info? 38).map (fun i => (i.zero, i.size, i.bytes)) = some (some (.int .u32 0), 1, 4) := by kernel_rfl
theorem owned_empty32 (w : World) : (w.alloc (.cells #[] 38)).ownsRow w.heap.size 38 1 (.slice (some ⟨w.heap.size, 0, none⟩) 0 0) 0 [] :=
  ⟨rfl, .inr ⟨w.heap.size, 0, #[], rfl, Nat.le_refl _, heap_alloc_at _ _, Nat.le_refl _, Nat.zero_le _, rfl, rfl⟩⟩
theorem below_new32 {w w' : World} {o : Obj} (h : (w.alloc o).grownBy w' (Value.slice (some ⟨w.heap.size, 0, none⟩) 0 0).ownBlock) : Below w.heap.size w w' :=
  ⟨h.os, h.tape, h.output, by have := h.size; simp at this; omega, fun k hk => by rw [h.block k (by simp; omega) (by simp [Value.ownBlock]; omega), Below.heap_alloc _ _ _ hk]⟩
theorem draws_of_owns {w : World} {base n : Nat} {v : Value} {ds : List Nat} (h : w.ownsRow base 38 1 v n (drawVals ds)) : ∃ a c, v = .slice a ds.length c ∧ (a = none → ds = [] ∧ c = 0) ∧ DrawsAt w a ds ∧ (∀ g, a = some g → g.off = 0 ∧ g.spot = none ∧ base ≤ g.block) := by
  have hl : ds.length = n := by have := h.1; rw [drawVals_length] at this; omega
  have hh := h
  rcases h.2 with ⟨rfl, h0⟩ | ⟨g, cap, cur, rfl, hb, hg, hle, hm, hsz, hcur⟩
  · have : ds = [] := List.length_eq_zero_iff.1 (by omega)
    subst this
    exact ⟨none, 0, rfl, fun _ => ⟨rfl, rfl⟩, fun hne => absurd rfl hne, fun g e => by simp at e⟩
  · refine ⟨_, _, by rw [hl], fun e => by simp at e, fun _ => ⟨g, rfl, lt_of_heap hg, fun i hi => ?_⟩, fun g' e => by cases e; exact ⟨rfl, rfl, hb⟩⟩
    rw [World.ownsRow.cellAt hh i (by omega)]
    simp [drawVals, List.getD, hi]

/-- Draws that lie anywhere. -/
def DrawsIn (w : World) (a : Option Addr) (ds : List Nat) : Prop := ds ≠ [] → ∃ g o, a = some ⟨g, o, none⟩ ∧ g < w.heap.size ∧ ∀ i, i < ds.length → w.cell? ⟨g, o + i, none⟩ = some (.int .u32 ((ds.getD i 0 : Nat) : Int))
theorem DrawsAt.into {w : World} {a : Option Addr} {ds : List Nat} (h : DrawsAt w a ds) : DrawsIn w a ds := fun hn => by
  obtain ⟨g, e, hg, hc⟩ := h hn
  exact ⟨g, 0, e, hg, fun i hi => by rw [Nat.zero_add]; exact hc i hi⟩
theorem DrawsIn.below {w w' : World} {a : Option Addr} {ds : List Nat} (h : DrawsIn w a ds) {n : Nat} (b : Below n w w') (hn : w.heap.size ≤ n) : DrawsIn w' a ds := fun hd => by
  obtain ⟨g, o, e, hg, hc⟩ := h hd
  exact ⟨g, o, e, Nat.lt_of_lt_of_le hg b.size, fun i hi => (b.cell (p := ⟨g, o + i, none⟩) (by simp; omega)).trans (hc i hi)⟩

set_option maxHeartbeats 1000000 in
theorem clone31 (ds : List Nat) (hl : ds.length ≤ 1000000000) (a : Option Addr) (c : Nat) (hz : a = none → ds = [] ∧ c = 0) (w : World) (h : DrawsIn w a ds) :
    Calls Try.prog 80 #[.slice a ds.length c] w fun e w' => ∃ v, e = .returned v ∧ w'.ownsRow w.heap.size 38 1 v ds.length (drawVals ds) ∧ Below w.heap.size w w' := by
  obtain ⟨i0, hi, hz0, hz1, hz2⟩ := info_parts infoU32
  cases a with
  | none =>
    obtain ⟨rfl, rfl⟩ := hz rfl
    clear hz h
    have hnil := fun w => Lib.run_eql_slice_nil (P := Try.prog) w 73 38 none 0 0 0 0 Try.underlying73
    go_enter Try.func80, Try.ntmps80
    go_wp2
    go_ret
    exact ⟨_, rfl, World.ownsRow_nil _ _ _ _, Below.refl _ _⟩
  | some ad =>
    have HO := hide (owned_empty32 w)
    have HN : Hid (∀ j u, (drawVals ds)[j]? = some u → (w.alloc (.cells #[] 38)).cell? (ad.add j) = some u) := hide (fun j u hj => by
      have hjl : j < ds.length := by have := (List.getElem?_eq_some_iff.1 hj).1; rwa [drawVals_length] at this
      obtain ⟨g, o, e, hg, hc⟩ := h (fun e => by rw [e] at hjl; simp at hjl)
      cases e
      have hu : u = .int .u32 ((ds.getD j 0 : Nat) : Int) := by simpa [drawVals, List.getD, hjl, eq_comm] using hj
      have ea : (⟨g, o, none⟩ : Addr).add j = ⟨g, o + j, none⟩ := by unfold Addr.add; split <;> simp_all
      rw [ea, hu, ← hc j hjl]
      exact World.cell?_of_block (Below.heap_alloc _ _ _ hg))
    obtain ⟨n, hn⟩ : ∃ n, ds.length = n := ⟨_, rfl⟩
    have HL := hide hn
    rw [hn] at hl ⊢
    clear hz hn h
    have hnil := fun w => Lib.run_eql_slice_nil (P := Try.prog) w 73 38 (some ad) n c 0 0 Try.underlying73
    go_enter Try.func80, Try.ntmps80
    go_wp2_with (at_builtin; refine wpList_append_own _ rfl _ _ 73 rfl w.heap.size 38 i0 (.int .u32 0) 1 4 Try.underlying73 hi hz0 hz1 hz2 rfl (by decide) _ 0 [] rfl HO.out ad n c (drawVals ds) rfl (by rw [drawVals_length, HL.out, Nat.mul_one]) HN.out (fun u hu => by simp [drawVals] at hu; obtain ⟨_, _, rfl⟩ := hu; rfl) (by unfold maxLen; omega) (by omega) (by simp) ?_; intro v' w3 hown' hgrow' _)
    go_ret
    refine ⟨_, rfl, ?_, below_new32 hgrow'⟩
    simpa using hown'

theorem newNil (w : World) (p : Int) (a : Option Addr) (k c : Nat) (hp : p < 1 ∨ 4096 < p) :
    Calls Try.prog 57 #[.int .i64 p, .slice a k c] w fun e w' => e = .returned (.pointer none) ∧ Below w.heap.size w w' := by
  by_cases h1 : p < 1
  · clear hp
    go_enter Try.func57, Try.ntmps57
    go_wp2
    go_ret
    exact ⟨rfl, Below.refl _ _⟩
  · have h2 : 4096 < p := by omega
    clear hp
    go_enter Try.func57, Try.ntmps57
    go_wp2
    go_ret
    exact ⟨rfl, Below.refl _ _⟩

set_option maxHeartbeats 1000000 in
theorem new10 (w : World) (pg : Nat) (h1 : 1 ≤ pg) (h2 : pg ≤ 4096) (ds : List Nat) (hl : ds.length ≤ 1000000000) (a : Option Addr) (c : Nat) (hz : a = none → ds = [] ∧ c = 0) (h : DrawsIn w a ds) :
    Calls Try.prog 57 #[.int .i64 (pg : Int), .slice a ds.length c] w fun e w' => ∃ r t T b c', e = .returned (.pointer (some ⟨r, 0, none⟩)) ∧ RAt w' r t T pg b c' ds 1 [(kOf 0 pg, ds.getD 0 0, ())] ∧ (∀ x, RF r t T b ds x → w.heap.size ≤ x) ∧ Below w.heap.size w w' := by
  have HN := hide (newE w)
  have HC := fun w' (hb : Below w.heap.size w w') => hide (clone31 ds hl a c hz w' (h.below hb (Nat.le_refl _)))
  obtain ⟨n, hn⟩ : ∃ n, ds.length = n := ⟨_, rfl⟩
  have HL := hide hn
  clear h hz
  rw [hn] at HC ⊢
  go_enter Try.func57, Try.ntmps57
  go_wp2_with fail
  refine HN.out.mono ?_
  rintro e w1 ⟨rfl, hT, hb1⟩
  have HT := hide hT
  have HB1 := hide hb1
  have HCC := HC w1 hb1
  clear hT hb1 hn
  go_wp2_with fail
  refine HCC.out.mono ?_
  rintro e w2 ⟨v, rfl, hown, hb2⟩
  rw [← HL.out] at hown
  obtain ⟨va, vc, rfl, _, hda, hab⟩ := draws_of_owns hown
  have HDA := hide hda
  have HAB := hide hab
  have HB2 := hide hb2
  clear hown hb2 hda hab HC
  rw [HL.out]
  have htl : w.heap.size < w1.heap.size := lt_of_heap HT.out.head
  have h0 : RAt (w2.alloc (.cells (rCells pg w.heap.size va n vc 0) 144)) w2.heap.size w.heap.size .nil pg va vc ds 0 [] := by
    have hbb : Below w2.heap.size w2 (w2.alloc (.cells (rCells pg w.heap.size va n vc 0) 144)) := (Below.refl _ w2).alloc (Nat.le_refl _) _
    have hs2 := HB2.out.size
    refine ⟨by rw [← HL.out]; exact heap_alloc_at _ _, (HT.out.below HB2.out).below hbb, fun e => ?_, HDA.out.kept (Below.only hbb (fun _ => False)) (fun _ _ _ h => h), fun hd g e => ?_⟩
    · rcases e with e | e
      · omega
      · exact e
    · obtain ⟨g', e', hg', _⟩ := HDA.out hd
      rw [e] at e'; cases e'
      have q := (HAB.out _ e).2.2
      simp only at q
      refine ⟨by omega, fun u => ?_⟩
      rcases u with u | u
      · omega
      · exact u
  have HLAY := hide (lay32 _ w2.heap.size w.heap.size .nil pg va vc ds 0 [] h0 0 pg (by omega) rfl (by simp) (by omega))
  have HAX : Hid (∀ x, ds ≠ [] ∧ va = some ⟨x, 0, none⟩ → w.heap.size ≤ x) := hide (fun x hx => by have q := (HAB.out _ hx.2).2.2; simp only at q; have := HB1.out.size; omega)
  clear h0
  unfold rCells at HLAY
  go_wp2_with fail
  refine HLAY.out.mono ?_
  rintro e w3 ⟨rfl, T', g1, g2, g3⟩
  have HG1 := hide g1
  have HG2 := hide g2
  have HG3 := hide g3
  clear g1 g2 g3
  go_wp2
  go_ret
  have hs2 := HB2.out.size
  have hs1 := HB1.out.size
  refine ⟨_, _, T', va, vc, rfl, by simpa [insL] using HG1.out, fun x hx => ?_, ?_⟩
  · rcases hx with rfl | hx | hx
    · omega
    · rcases HG3.out x (.inr hx) with (q | q | q) | q
      · omega
      · omega
      · exact q.elim
      · simp at q; omega
    · exact HAX.out x hx
  · have b12 : Below w.heap.size w w2 := HB1.out.trans (HB2.out.mono HB1.out.size)
    refine (b12.alloc (by omega) _).trans (HG2.out.below (by simp; omega) (fun i hi => ?_))
    rcases hi with rfl | rfl | q
    · omega
    · omega
    · exact q.elim

/-- What lies at place k behind an address. -/
def AtB (w : World) (ao : Option Addr) (k : Nat) (v : Value) : Prop := ∃ b o, ao = some ⟨b, o, none⟩ ∧ b < w.heap.size ∧ w.cell? ⟨b, o + k, none⟩ = some v
theorem AtB.below {w w' : World} {ao : Option Addr} {k : Nat} {v : Value} {n : Nat} (h : AtB w ao k v) (hb : Below n w w') (hn : w.heap.size ≤ n) : AtB w' ao k v := by
  obtain ⟨b, o, e, h1, h2⟩ := h
  exact ⟨b, o, e, Nat.lt_of_lt_of_le h1 hb.size, (hb.cell (p := ⟨b, o + k, none⟩) (by simp; omega)).trans h2⟩
/-- The bytes f of a list of n. -/
def BytesAt (w : World) (ao : Option Addr) (n : Nat) (f : Nat → Nat) : Prop := ∀ k, k < n → f k < 256 ∧ AtB w ao k (.int .u8 (f k : Nat))
theorem BytesAt.below {w w' : World} {ao : Option Addr} {n m : Nat} {f : Nat → Nat} (h : BytesAt w ao n f) (hb : Below m w w') (hm : w.heap.size ≤ m) : BytesAt w' ao n f := fun k hk => ⟨(h k hk).1, (h k hk).2.below hb hm⟩
def drawOf (b : Nat) : Nat := b % 9 * 2 ^ (b % 25)
def drawsOf (f : Nat → Nat) (n : Nat) : List Nat := (List.range n).map fun i => drawOf (f i)
theorem drawsOf_length (f : Nat → Nat) (n : Nat) : (drawsOf f n).length = n := by simp [drawsOf]
theorem drawOf_lt (b : Nat) : drawOf b < 4294967296 := by
  unfold drawOf
  have h1 : b % 9 < 9 := Nat.mod_lt _ (by decide)
  have h2 : 2 ^ (b % 25) ≤ 2 ^ 24 := Nat.pow_le_pow_right (by decide) (by omega)
  calc b % 9 * 2 ^ (b % 25) ≤ 8 * 2 ^ 24 := Nat.mul_le_mul (by omega) h2
    _ < 4294967296 := by decide

attribute [local go_sem] Oper.semAt_some

end Go.Proofs.Ytafamfjgehnddaa

namespace Go.Proofs.Ytafamfjgehnddaa
open Go.RowKit

/-- A list of runs that lies by itself. -/
def RV (v : Value) (l : List (Int × Int)) : Res := fun W G => RunsV W v l ∧ ∀ x, G x ↔ l ≠ [] ∧ ∃ a m c, v = .slice (some a) m c ∧ a.block = x
theorem Loc.rv {v : Value} {l : List (Int × Int)} : Loc (RV v l) := by
  refine ⟨fun {w w' M G} ⟨h1, h2⟩ o hn => ⟨?_, h2⟩, fun {w G x} ⟨h1, h2⟩ hx => ?_⟩
  · by_cases hl : l = []
    · subst hl
      obtain ⟨a, c, e, _⟩ := h1
      exact ⟨a, c, e, fun h => absurd rfl h⟩
    · exact h1.kept o (fun a m c e => hn _ ((h2 _).2 ⟨hl, a, m, c, e, rfl⟩))
  · obtain ⟨hl, a, m, c, e, rfl⟩ := (h2 x).1 hx
    obtain ⟨a', c', e', h⟩ := h1
    obtain ⟨g, e2, hg, _⟩ := h hl
    rw [e] at e'; cases e'
    cases e2; exact hg
/-- A list of nodes that lies by itself. -/
def NV (v : Value) (l : List (Int × Nat)) : Res := fun W G => NodesV W v l ∧ ∀ x, G x ↔ l ≠ [] ∧ ∃ a m c, v = .slice (some a) m c ∧ a.block = x
theorem Loc.nv {v : Value} {l : List (Int × Nat)} : Loc (NV v l) := by
  refine ⟨fun {w w' M G} ⟨h1, h2⟩ o hn => ⟨?_, h2⟩, fun {w G x} ⟨h1, h2⟩ hx => ?_⟩
  · obtain ⟨a, c, e, h⟩ := h1
    refine ⟨a, c, e, fun hne => ?_⟩
    obtain ⟨g, e2, hg, hc⟩ := h hne
    have hg' : ¬ M g := hn g ((h2 g).2 ⟨hne, ⟨g, 0, none⟩, l.length, c, by rw [e, e2], rfl⟩)
    exact ⟨g, e2, Nat.lt_of_lt_of_le hg o.size, fun i hi => ⟨(o.cell (p := ⟨g, i * 2, none⟩) hg hg').trans (hc i hi).1, (o.cell (p := ⟨g, i * 2 + 1, none⟩) hg hg').trans (hc i hi).2⟩⟩
  · obtain ⟨hl, a, m, c, e, rfl⟩ := (h2 x).1 hx
    obtain ⟨a', c', e', h⟩ := h1
    obtain ⟨g, e2, hg, _⟩ := h hl
    rw [e] at e'; cases e'
    cases e2; exact hg
/-- Something new, beside the rest. -/
theorem Own.beside {R1 R2 R : Res} {w0 w w' : World} {G : Nat → Prop} (l1 : Loc R1) (l2 : Loc R) (h : Own (Sep R1 R) w0 w) (h2 : R2 w' G) (hG : ∀ x, G x → w.heap.size ≤ x) (b : Below w.heap.size w w') : Own (Sep R1 (Sep R2 R)) w0 w' := by
  obtain ⟨GG, ⟨G1, G3, a1, a3, d, e⟩, h0, h3⟩ := h
  have k1 := l1.kept a1 (Below.only b (fun _ => False)) (fun _ _ h => h)
  have k3 := l2.kept a3 (Below.only b (fun _ => False)) (fun _ _ h => h)
  refine ⟨fun x => G1 x ∨ (G x ∨ G3 x), ⟨G1, fun x => G x ∨ G3 x, k1, ⟨G, G3, h2, k3, fun x hx q => ?_, fun _ => Iff.rfl⟩, fun x hx q => ?_, fun _ => Iff.rfl⟩, fun x hx => ?_, h3.trans (b.mono h3.size)⟩
  · have := l2.lt a3 q; have := hG x hx; omega
  · rcases q with q | q
    · have := l1.lt a1 hx; have := hG x q; omega
    · exact d x hx q
  · rcases hx with hx | hx | hx
    · exact h0 x ((e x).2 (.inl hx))
    · exact Nat.le_trans h3.size (hG x hx)
    · exact h0 x ((e x).2 (.inr hx))
theorem Own.left {R1 R2 : Res} {w0 w : World} (h : Own (Sep R1 R2) w0 w) : ∃ G, R1 w G := by obtain ⟨_, ⟨G1, _, a, _⟩, _⟩ := h; exact ⟨G1, a⟩
theorem Own.right {R1 R2 : Res} {w0 w : World} (h : Own (Sep R1 R2) w0 w) : ∃ G, R2 w G := by obtain ⟨_, ⟨_, G2, _, a, _⟩, _⟩ := h; exact ⟨G2, a⟩
theorem Own.mid {R1 R2 R3 : Res} {w0 w : World} (h : Own (Sep R1 (Sep R2 R3)) w0 w) : ∃ G, R2 w G := by obtain ⟨_, G2, _, a, _⟩ := h.right; exact ⟨G2, a⟩
/-- Something is let go. -/
theorem Own.drop2 {R1 R2 R3 : Res} {w0 w : World} (h : Own (Sep R1 (Sep R2 R3)) w0 w) : Own (Sep R1 R3) w0 w := by
  obtain ⟨G, ⟨G1, _, a, ⟨G2, G3, b1, b2, b3, b4⟩, c, d⟩, h2, h3⟩ := h
  exact ⟨fun x => G1 x ∨ G3 x, ⟨G1, G3, a, b2, fun x hx h => c x hx ((b4 x).2 (.inr h)), fun _ => Iff.rfl⟩, fun x hx => h2 x ((d x).2 (hx.imp (fun q => q) (fun q => (b4 x).2 (.inr q)))), h3⟩
theorem Own.drop1 {R1 R2 : Res} {w0 w : World} (h : Own (Sep R1 R2) w0 w) : Own R2 w0 w := by
  obtain ⟨G, ⟨G1, G2, a, b, c, d⟩, h2, h3⟩ := h
  exact ⟨G2, b, fun x hx => h2 x ((d x).2 (.inr hx)), h3⟩

/-- What Take and Find answer, and what is left. -/
def takeA (n : Int) (L : RL) : Int × Int := if n < 1 then (0, 1) else match fitL n L with | none => (0, 3) | some i => (rA i.1, 0)
def takeS (ds : List Nat) (n : Int) (dn : Nat) (L : RL) : Nat × RL := if n < 1 then (dn, L) else match fitL n L with | none => (dn, L) | some i => (if n < rN i.1 then dn + 1 else dn, cutL i n (ds.getD dn 0) L)
def findA (n : Int) (L : RL) : Int × Bool := if n < 1 then (0, false) else match fitL n L with | none => (0, false) | some i => (rA i.1, true)
def putV (pg : Nat) (x n : Int) : Bool := decide (1 ≤ n ∧ 0 ≤ x ∧ n ≤ (pg : Int) - x)
def putA (pg : Nat) (x n : Int) (L : RL) : Int := if putV pg x n = false then 1 else if L.any (fun i => hits x n i.1) then 4 else 0
def putS (pg : Nat) (ds : List Nat) (x n : Int) (dn : Nat) (L : RL) : Nat × RL := if putA pg x n L = 0 then (dn + 1, laidL x n (ds.getD dn 0) L) else (dn, L)

section
variable {R : Res} {w0 w : World} {r pg : Nat} {ds : List Nat} {dn : Nat} {L : RL}

theorem newP (l : Loc R) (h : Own R w0 w) (h1 : 1 ≤ pg) (h2 : pg ≤ 4096) (hl : ds.length ≤ 1000000000) (a : Option Addr) (c : Nat) (hz : a = none → ds = [] ∧ c = 0) (hd : DrawsAt w a ds) :
    Calls Try.prog 57 #[.int .i64 (pg : Int), .slice a ds.length c] w fun e w' => ∃ r, e = .returned (.pointer (some ⟨r, 0, none⟩)) ∧ Own (Sep (RR r pg ds 1 [(kOf 0 pg, ds.getD 0 0, ())]) R) w0 w' :=
  (new10 w pg h1 h2 ds hl a c hz hd.into).mono fun _ _ ⟨r, _, _, _, _, e, hR, hn, b⟩ => ⟨r, e, h.runsNew l hR hn b⟩
end

/-- Runs that calls may still be made on, m of them. -/
structure Fit (m pg : Nat) (ds : List Nat) (dn : Nat) (L : RL) : Prop where
  pos : 1 ≤ pg
  most : pg ≤ 4096
  good : Good pg L
  len : L.length ≤ m
  dn : dn ≤ m
  ds : ds.length ≤ 1000000000
theorem Fit.fine {m pg : Nat} {ds : List Nat} {dn : Nat} {L : RL} (h : Fit m pg ds dn L) (hm : m ≤ 100000) : Fine pg ds dn L := ⟨h.pos, h.most, h.good, Nat.le_trans h.len hm, Nat.le_trans h.dn (by omega), h.ds⟩
theorem Fit.mono {m m' pg : Nat} {ds : List Nat} {dn : Nat} {L : RL} (h : Fit m pg ds dn L) (hm : m ≤ m') : Fit m' pg ds dn L := ⟨h.pos, h.most, h.good, Nat.le_trans h.len hm, Nat.le_trans h.dn hm, h.ds⟩
theorem Fit.new {pg : Nat} {ds : List Nat} (h1 : 1 ≤ pg) (h2 : pg ≤ 4096) (hl : ds.length ≤ 1000000000) {d : Nat} : Fit 1 pg ds 1 [(kOf 0 pg, d, ())] := ⟨h1, h2, Good.one (by omega), Nat.le_refl _, Nat.le_refl _, hl⟩
theorem Fit.take {m pg : Nat} {ds : List Nat} {dn : Nat} {L : RL} (h : Fit m pg ds dn L) (n : Int) : Fit (m + 1) pg ds (takeS ds n dn L).1 (takeS ds n dn L).2 := by
  unfold takeS
  by_cases h1 : n < 1
  · simp only [h1, if_true]; exact h.mono (by omega)
  · simp only [h1, if_false]
    cases hg : fitL n L with
    | none => exact h.mono (by omega)
    | some i =>
      obtain ⟨q1, q2, _⟩ := fit_some h.good.ris hg
      have hm : (pg : Int) ≤ 4096 := by have := h.most; omega
      refine ⟨h.pos, h.most, h.good.cut hm q1 (by omega) _, ?_, ?_, h.ds⟩
      · have := h.len
        simp only [cutL]
        split
        · rw [insL_length]; have := delL_le (L := L) (key := i.1); omega
        · have := delL_le (L := L) (key := i.1); omega
      · have := h.dn
        show (if n < rN i.1 then dn + 1 else dn) ≤ m + 1
        split <;> omega
theorem dels_len {ks : List Int} {L : RL} : (delsL ks L).length ≤ L.length := by
  unfold delsL
  induction ks generalizing L with
  | nil => exact Nat.le_refl _
  | cons k ks ih => exact Nat.le_trans ih delL_le
theorem put_zero {pg : Nat} {x n : Int} {L : RL} (h : putA pg x n L = 0) : 1 ≤ n ∧ 0 ≤ x ∧ n ≤ (pg : Int) - x ∧ ∀ i ∈ L, hits x n i.1 = false := by
  unfold putA at h
  cases hv : putV pg x n with
  | false => simp [hv] at h
  | true =>
    have hv' : 1 ≤ n ∧ 0 ≤ x ∧ n ≤ (pg : Int) - x := by simpa [putV] using hv
    refine ⟨hv'.1, hv'.2.1, hv'.2.2, fun i hi => ?_⟩
    cases hh : hits x n i.1 with
    | false => rfl
    | true =>
      have ha : L.any (fun i => hits x n i.1) = true := List.any_eq_true.2 ⟨i, hi, hh⟩
      simp [hv, ha] at h
theorem Fit.put {m pg : Nat} {ds : List Nat} {dn : Nat} {L : RL} (h : Fit m pg ds dn L) (x n : Int) : Fit (m + 1) pg ds (putS pg ds x n dn L).1 (putS pg ds x n dn L).2 := by
  unfold putS
  by_cases h0 : putA pg x n L = 0
  · simp only [h0, if_true]
    obtain ⟨q1, q2, q3, q4⟩ := put_zero h0
    have hm : (pg : Int) ≤ 4096 := by have := h.most; omega
    refine ⟨h.pos, h.most, h.good.put hm q2 q1 (by omega) q4 _, ?_, ?_, h.ds⟩
    · have := h.len
      simp only [laidL, insL_length]
      have := dels_len (ks := besK x n L) (L := L)
      omega
    · have := h.dn; show dn + 1 ≤ m + 1; omega
  · simp only [h0, if_false]; exact h.mono (by omega)
end Go.Proofs.Ytafamfjgehnddaa

namespace Go.Proofs.Ytafamfjgehnddaa
open Go.RowKit

theorem StoreAt.copy {T : TypeId} {w : World} {p b : Nat} {s : St} (h : StoreAt T w p b s) :
    StoreAt T (w.alloc (.cells #[.slice (some ⟨b, 0, none⟩) s.words.length s.words.length, .int .i64 s.kind, .int .i64 s.place, .int .u64 s.old, .int .u64 s.new, .int .i64 s.count] T)) w.heap.size b s :=
  ⟨heap_alloc_at _ _, heap_alloc_old h.row, by have := lt_of_heap h.row; omega, h.len, h.bd⟩

/-- A store of n words, all 0 but the first. -/
def St.first (n : Nat) : St := ⟨(List.replicate n 0).set 0 1, 0, 0, 0, 0, 0⟩

theorem Lay.words_nat {P T : Int} (hm : Lay.may P T = true) : ∃ n : Nat, Lay.words P T = (n : Int) ∧ 1 ≤ n ∧ n ≤ 65536 := by
  obtain ⟨m1, m2, m3, m4⟩ := Lay.may_iff.1 hm
  obtain ⟨n1, n2, _⟩ := Lay.maps_bd m1 m2
  refine ⟨(Lay.words P T).toNat, ?_⟩
  unfold Lay.words Lay.total
  simp only [hm, if_true]
  omega

set_option maxHeartbeats 2000000 in
theorem words52 (P T : Int) (hm : Lay.may P T = true) (w : World) :
    Calls Try.prog 56 #[.agg #[.int .i64 P, .int .i64 T]] w fun e w' => ∃ p b, e = .returned (.pointer (some ⟨p, 0, none⟩)) ∧ StoreAt 104 w' p b (St.first (Lay.words P T).toNat) ∧ w.heap.size ≤ p ∧ w.heap.size ≤ b ∧ Below w.heap.size w w' := by
  obtain ⟨n, hn, n1, n2⟩   := Lay.words_nat hm
  have M := hide (fun w => lwords P T w)
  rw [hn] at M ⊢
  clear hn hm
  go_enter Try.func56, Try.ntmps56
  have B0 := LBox.new w P T 26
  have b0 := B0.c0
  have b1 := B0.c1
  go_wp2_with fail
  refine (M.out _).mono ?_
  rintro e w1 ⟨rfl, hb⟩
  have B1 := LBox.grow (by assumption) hb
  go_wp2_with fail
  refine (new_in _ n n1 n2).mono ?_
  rintro e w2 ⟨p, b, rfl, hS, hp, hb1, hb2⟩
  have B2 := B1.below.trans (hb2.mono B1.below.size)
  have c0 : w2.cell? ⟨p, 0, none⟩ = _ := cell_of_heap hS.head
  have c1 : w2.cell? ⟨p, 1, none⟩ = _ := cell_of_heap hS.head
  have c2 : w2.cell? ⟨p, 2, none⟩ = _ := cell_of_heap hS.head
  have c3 : w2.cell? ⟨p, 3, none⟩ = _ := cell_of_heap hS.head
  have c4 : w2.cell? ⟨p, 4, none⟩ = _ := cell_of_heap hS.head
  have c5 : w2.cell? ⟨p, 5, none⟩ = _ := cell_of_heap hS.head
  simp [St.zero] at c0 c1 c2 c3 c4 c5
  have HS := hide hS
  have HB2 := hide B2
  have p0 : w.heap.size ≤ p := Nat.le_trans B1.below.size hp
  have q0 : w.heap.size ≤ b := Nat.le_trans B1.below.size hb1
  clear hb hb2 B0 b0 b1 B2 hS B1 M hp hb1
  have HC := hide (HS.out.copy)
  have hpl : p < w2.heap.size := lt_of_heap HS.out.head
  have hbl : b < w2.heap.size := lt_of_heap HS.out.row
  have hrl : (List.replicate n 0).length = n := by simp
  unfold St.zero at HC
  simp only [hrl] at HC
  go_wp2_with fail
  refine (s_put _ _ b _ HC.out 0 (by simp; omega) 1 (by omega)).mono ?_
  rintro e w3 ⟨rfl, hS3, ho⟩
  have HS3 := hide hS3
  have HO := hide ho
  clear hS3 ho c0 c1 c2 c3 c4 c5
  go_wp2
  go_ret
  refine ⟨p, b, rfl, ⟨?_, ?_, HS.out.ne, ?_, ?_⟩, p0, q0, ?_⟩
  · rw [HO.out.block p (by simp; omega) (by rintro (e | e); omega; exact HS.out.ne e), Below.heap_alloc _ _ _ hpl, HS.out.head]
    simp [St.first, St.zero]
  · rw [HS3.out.row]; simp [St.first, St.put, St.access]
  · simpa [St.first] using n2
  · simp only [St.first]; exact set_lt _ (by intro x hx; rw [List.eq_of_mem_replicate hx]; omega) 0 1 (by omega)
  · refine (HB2.out.alloc (by have := HB2.out.size; omega) _).trans (HO.out.below (by have := HB2.out.size; simp; omega) (fun i hi => ?_))
    have := HB2.out.size
    rcases hi with rfl | rfl <;> omega
end Go.Proofs.Ytafamfjgehnddaa

namespace Go.Proofs.Ytafamfjgehnddaa
open Go.RowKit

theorem Sep.comm' (A B : Res) : Sep A B = Sep B A := by
  funext w G
  apply propext
  constructor <;> (rintro ⟨G1, G2, a, b, c, d⟩; exact ⟨G2, G1, b, a, fun x hx h => c x h hx, fun x => (d x).trans or_comm⟩)
theorem Sep.assoc' (A B C : Res) : Sep (Sep A B) C = Sep A (Sep B C) := by
  funext w G
  apply propext
  constructor
  · rintro ⟨G12, G3, ⟨G1, G2, a, b, c, d⟩, e, f, g⟩
    refine ⟨G1, fun x => G2 x ∨ G3 x, a, ⟨G2, G3, b, e, fun x hx h => f x ((d x).2 (.inr hx)) h, fun _ => Iff.rfl⟩, fun x hx h => h.elim (c x hx) (f x ((d x).2 (.inl hx))), fun x => ?_⟩
    rw [g x, d x, or_assoc]
  · rintro ⟨G1, G23, a, ⟨G2, G3, b, e, f, g⟩, c, d⟩
    refine ⟨fun x => G1 x ∨ G2 x, G3, ⟨G1, G2, a, b, fun x hx h => c x hx ((g x).2 (.inl h)), fun _ => Iff.rfl⟩, e, fun x hx h => hx.elim (fun q => c x q ((g x).2 (.inr h))) (fun q => f x q h), fun x => ?_⟩
    rw [d x, g x, or_assoc]
instance : Std.Commutative Sep := ⟨Sep.comm'⟩
instance : Std.Associative Sep := ⟨Sep.assoc'⟩

theorem Own.cast {R R' : Res} {w0 w : World} (h : Own R w0 w) (e : R = R') : Own R' w0 w := e ▸ h

/-- Something new. -/
theorem Own.fresh {R1 R : Res} {w0 w w' : World} {G : Nat → Prop} (l : Loc R) (h : Own R w0 w) (h1 : R1 w' G) (hn : ∀ x, G x → w.heap.size ≤ x) (b : Below w.heap.size w w') : Own (Sep R1 R) w0 w' := by
  obtain ⟨G2, a2, h2, h3⟩ := h
  refine ⟨fun x => G x ∨ G2 x, ⟨G, G2, h1, l.kept a2 (Below.only b (fun _ => False)) (fun _ _ h => h), fun x hx q => ?_, fun _ => Iff.rfl⟩, fun x hx => ?_, h3.trans (b.mono h3.size)⟩
  · have := l.lt a2 q; have := hn x hx; omega
  · rcases hx with hx | hx
    · exact Nat.le_trans h3.size (hn x hx)
    · exact h2 x hx
end Go.Proofs.Ytafamfjgehnddaa

namespace Go.Proofs.Ytafamfjgehnddaa
open Go.RowKit

/-- The program's store at p. -/
def SS (p : Nat) (s : St) : Res := fun w G => ∃ b, StoreAt 104 w p b s ∧ ∀ x, G x ↔ x = p ∨ x = b
theorem Loc.ss {p : Nat} {s : St} : Loc (SS p s) :=
  ⟨fun ⟨b, h, e⟩ o hn => ⟨b, h.kept o (hn p ((e p).2 (.inl rfl))) (hn b ((e b).2 (.inr rfl))), e⟩, fun {w G x} ⟨b, h, e⟩ hx => by
    rcases (e x).1 hx with rfl | rfl
    · exact lt_of_heap h.head
    · exact lt_of_heap h.row⟩
theorem Own.store {p : Nat} {s : St} {R : Res} {w0 w : World} (l : Loc R) (h : Own (Sep (SS p s) R) w0 w) :
    ∃ b, StoreAt 104 w p b s ∧ ∀ {w' s'}, StoreAt 104 w' p b s' → Only (fun k => k = p ∨ k = b) w w' → Own (Sep (SS p s') R) w0 w' := by
  obtain ⟨G, ⟨G1, G2, ⟨b, h1, e⟩, r, c, d⟩, h2, h3⟩ := h
  refine ⟨b, h1, fun {w' s'} g1 g2 => ?_⟩
  exact Own.step (G1 := G1) (G1' := G1) (G2 := G2) l h3 (fun x hx => h2 x ((d x).2 hx)) r c ⟨b, g1, e⟩ (g2.mono (fun x _ hx => (e x).2 hx)) (fun x hx => .inl hx)

/-- The arena's head at q. -/
def AH (q : Nat) (P T : Int) (p r : Nat) : Res := fun w G => w.heap[q]? = some (.cells #[.int .i64 P, .int .i64 T, .pointer (some ⟨p, 0, none⟩), .pointer (some ⟨r, 0, none⟩)] 117 (0, 0)) ∧ ∀ x, G x ↔ x = q
theorem Loc.ah {q : Nat} {P T : Int} {p r : Nat} : Loc (AH q P T p r) :=
  ⟨fun ⟨h, e⟩ o hn => ⟨(o.block q (lt_of_heap h) (hn q ((e q).2 rfl))).trans h, e⟩, fun {w G x} ⟨h, e⟩ hx => by rw [(e x).1 hx]; exact lt_of_heap h⟩

/-- An arena. -/
def AX (q : Nat) (P T : Int) (p r : Nat) (s : St) (pg : Nat) (ds : List Nat) (dn : Nat) (L : RL) : Res := Sep (AH q P T p r) (Sep (SS p s) (RR r pg ds dn L))
theorem Loc.ax {q : Nat} {P T : Int} {p r : Nat} {s : St} {pg : Nat} {ds : List Nat} {dn : Nat} {L : RL} : Loc (AX q P T p r s pg ds dn L) := Loc.ah.sep (Loc.ss.sep Loc.rr)

section
variable {R : Res} {w0 w : World} {q : Nat} {P T : Int} {p r : Nat} {s : St} {pg : Nat} {ds : List Nat} {dn : Nat} {L : RL}
theorem AX.toStore : Sep (AX q P T p r s pg ds dn L) R = Sep (SS p s) (Sep (AH q P T p r) (Sep (RR r pg ds dn L) R)) := by unfold AX; ac_rfl
theorem AX.toRuns : Sep (AX q P T p r s pg ds dn L) R = Sep (RR r pg ds dn L) (Sep (AH q P T p r) (Sep (SS p s) R)) := by unfold AX; ac_rfl
theorem Loc.one (l : Loc R) : Loc (Sep (AH q P T p r) (Sep (RR r pg ds dn L) R)) := Loc.ah.sep (Loc.rr.sep l)
theorem Loc.two (l : Loc R) : Loc (Sep (AH q P T p r) (Sep (SS p s) R)) := Loc.ah.sep (Loc.ss.sep l)
theorem AX.head (h : Own (Sep (AX q P T p r s pg ds dn L) R) w0 w) : w.heap[q]? = some (.cells #[.int .i64 P, .int .i64 T, .pointer (some ⟨p, 0, none⟩), .pointer (some ⟨r, 0, none⟩)] 117 (0, 0)) := by
  obtain ⟨_, ⟨_, _, ⟨_, _, a, _⟩, _⟩, _⟩ := h
  exact a.1
theorem AX.st (h : Own (Sep (AX q P T p r s pg ds dn L) R) w0 w) : ∃ b, StoreAt 104 w p b s := by
  obtain ⟨_, ⟨_, _, ⟨_, _, _, ⟨_, _, ⟨b, a, _⟩, _⟩, _⟩, _⟩, _⟩ := h
  exact ⟨b, a⟩

theorem storeX (h : Own (Sep (AX q P T p r s pg ds dn L) R) w0 w) : Calls Try.prog 30 #[.pointer (some ⟨q, 0, none⟩)] w fun e w' => e = .returned (.pointer (some ⟨p, 0, none⟩)) ∧ w' = w := by
  have c2 : w.cell? ⟨q, 2, none⟩ = some (.pointer (some ⟨p, 0, none⟩)) := cell_of_heap (AX.head h)
  clear h
  go_enter Try.func30, Try.ntmps30
  go_wp2
  go_ret
  exact ⟨rfl, rfl⟩
theorem runsX (h : Own (Sep (AX q P T p r s pg ds dn L) R) w0 w) : Calls Try.prog 62 #[.pointer (some ⟨q, 0, none⟩)] w fun e w' => e = .returned (.pointer (some ⟨r, 0, none⟩)) ∧ w' = w := by
  have c2 : w.cell? ⟨q, 3, none⟩ = some (.pointer (some ⟨r, 0, none⟩)) := cell_of_heap (AX.head h)
  clear h
  go_enter Try.func62, Try.ntmps62
  go_wp2
  go_ret
  exact ⟨rfl, rfl⟩
theorem layoutX (h : Own (Sep (AX q P T p r s pg ds dn L) R) w0 w) : Calls Try.prog 26 #[.pointer (some ⟨q, 0, none⟩)] w fun e w' => e = .returned (.agg #[.int .i64 P, .int .i64 T]) ∧ Below w.heap.size w w' := by
  have c0 : w.cell? ⟨q, 0, none⟩ = some (.int .i64 P) := cell_of_heap (AX.head h)
  have c1 : w.cell? ⟨q, 1, none⟩ = some (.int .i64 T) := cell_of_heap (AX.head h)
  have d0 : ∀ o, (w.alloc o).cell? ⟨q, 0, none⟩ = some (.int .i64 P) := fun o => cell_of_heap (heap_alloc_old (AX.head h))
  have d1 : ∀ o, (w.alloc o).cell? ⟨q, 1, none⟩ = some (.int .i64 T) := fun o => cell_of_heap (heap_alloc_old (AX.head h))
  clear h
  go_enter Try.func26, Try.ntmps26
  go_wp2
  go_returns
  exact ⟨rfl, grown1 _ _⟩
end

theorem layoutNil (w : World) : Calls Try.prog 26 #[.pointer none] w fun e w' => e = .returned (.agg #[.int .i64 0, .int .i64 0]) ∧ Below w.heap.size w w' := by
  go_enter Try.func26, Try.ntmps26
  go_wp2
  go_returns
  exact ⟨rfl, grown1 _ _⟩
theorem storeNil (w : World) : Calls Try.prog 30 #[.pointer none] w fun e w' => e = .returned (.pointer none) ∧ w' = w := by
  go_enter Try.func30, Try.ntmps30
  go_wp2
  go_ret
  exact ⟨rfl, rfl⟩
theorem runsNil (w : World) : Calls Try.prog 62 #[.pointer none] w fun e w' => e = .returned (.pointer none) ∧ w' = w := by
  go_enter Try.func62, Try.ntmps62
  go_wp2
  go_ret
  exact ⟨rfl, rfl⟩
end Go.Proofs.Ytafamfjgehnddaa

namespace Go.Proofs.Ytafamfjgehnddaa
open Go.RowKit

section
variable {R : Res} {w0 w : World} {q : Nat} {P T : Int} {p r : Nat} {s : St} {pg : Nat} {ds : List Nat} {dn : Nat} {L : RL}

theorem set_getD (l : List Nat) (i : Nat) : l.set i (l.getD i 0) = l := by
  apply List.ext_getElem?
  intro j
  rw [List.getElem?_set]
  split
  · rename_i e; subst e
    split
    · rename_i h; rw [List.getD_eq_getElem?_getD, List.getElem?_eq_getElem h]; simp
    · rename_i h; rw [List.getElem?_eq_none (by omega)]
  · rfl

theorem lenX (h : Own (Sep (AX q P T p r s pg ds dn L) R) w0 w) : Calls Try.prog 65 #[.pointer (some ⟨p, 0, none⟩)] w fun e w' => e = .returned (.int .i64 (s.words.length : Nat)) ∧ w' = w := by
  obtain ⟨b, hS⟩ := AX.st h
  exact len_of w p b s hS
theorem countX (h : Own (Sep (AX q P T p r s pg ds dn L) R) w0 w) : Calls Try.prog 31 #[.pointer (some ⟨p, 0, none⟩)] w fun e w' => e = .returned (.int .i64 s.count) ∧ w' = w := by
  obtain ⟨b, hS⟩ := AX.st h
  exact count_of w p b s hS
theorem putX (l : Loc R) (h : Own (Sep (AX q P T p r s pg ds dn L) R) w0 w) (i : Nat) (hi : i < s.words.length) (v : Nat) (hv : v < 18446744073709551616) :
    Calls Try.prog 38 #[.pointer (some ⟨p, 0, none⟩), .int .i64 (i : Int), .int .u64 (v : Int)] w fun e w' => e = .returned (.int .i64 0) ∧ Own (Sep (AX q P T p r (s.put i v) pg ds dn L) R) w0 w' := by
  obtain ⟨b, hS, k⟩ := (h.cast AX.toStore).store l.one
  exact (s_put w p b s hS i hi v hv).mono fun _ _ ⟨e, h1, h2⟩ => ⟨e, (k h1 h2).cast AX.toStore.symm⟩
theorem loadX (l : Loc R) (h : Own (Sep (AX q P T p r s pg ds dn L) R) w0 w) (i : Nat) (hi : i < s.words.length) :
    Calls Try.prog 42 #[.pointer (some ⟨p, 0, none⟩), .int .i64 (i : Int)] w fun e w' => e = .returned (.tuple #[.int .u64 (s.words.getD i 0 : Nat), .int .i64 0]) ∧ Own (Sep (AX q P T p r (s.load i) pg ds dn L) R) w0 w' := by
  obtain ⟨b, hS, k⟩ := (h.cast AX.toStore).store l.one
  exact (s_load w p b s hS i hi).mono fun _ _ ⟨e, h1, h2⟩ => ⟨e, (k h1 h2).cast AX.toStore.symm⟩
end

/-- A setup, boxed, and its layout. -/
structure SetAt (w : World) (b : Nat) (P T : Int) (a : Option Addr) (n c : Nat) (ds : List Nat) (u : World) : Prop where
  c0 : u.cell? ⟨b, 0, none⟩ = some (.int .i64 P)
  c1 : u.cell? ⟨b, 1, none⟩ = some (.int .i64 T)
  c2 : u.cell? ⟨b, 2, none⟩ = some (.slice a n c)
  l0 : u.cell? ⟨b + 1, 0, none⟩ = some (.int .i64 P)
  l1 : u.cell? ⟨b + 1, 1, none⟩ = some (.int .i64 T)
  row : DrawsIn u a ds
  below : Below w.heap.size w u
theorem SetAt.grow {w u v : World} {b : Nat} {P T : Int} {a : Option Addr} {n c : Nat} {ds : List Nat} (h : SetAt w b P T a n c ds u) (hb : Below u.heap.size u v) : SetAt w b P T a n c ds v :=
  ⟨(hb.cell (block_lt_of_cell h.c0)).trans h.c0, (hb.cell (block_lt_of_cell h.c1)).trans h.c1, (hb.cell (block_lt_of_cell h.c2)).trans h.c2, (hb.cell (block_lt_of_cell h.l0)).trans h.l0, (hb.cell (block_lt_of_cell h.l1)).trans h.l1, h.row.below hb (Nat.le_refl _), h.below.trans (hb.mono h.below.size)⟩
theorem SetAt.new (w : World) (P T : Int) (a : Option Addr) (n c : Nat) (ds : List Nat) (h : DrawsIn w a ds) (t1 t2 : TypeId) :
    SetAt w w.heap.size P T a n c ds ((w.alloc (.cells #[.int .i64 P, .int .i64 T, .slice a n c] t1)).alloc (.cells #[.int .i64 P, .int .i64 T] t2)) := by
  have hb : Below w.heap.size w ((w.alloc (.cells #[.int .i64 P, .int .i64 T, .slice a n c] t1)).alloc (.cells #[.int .i64 P, .int .i64 T] t2)) := ((Below.refl _ w).alloc (Nat.le_refl _) _).alloc (by simp) _
  have e1 := heap_alloc_old (o := .cells #[.int .i64 P, .int .i64 T] t2) (heap_alloc_at w (.cells #[.int .i64 P, .int .i64 T, .slice a n c] t1))
  have e2 := heap_alloc_at (w.alloc (.cells #[.int .i64 P, .int .i64 T, .slice a n c] t1)) (.cells #[.int .i64 P, .int .i64 T] t2)
  rw [show (w.alloc (.cells #[.int .i64 P, .int .i64 T, .slice a n c] t1)).heap.size = w.heap.size + 1 by simp] at e2
  exact ⟨cell_of_heap e1, cell_of_heap e1, cell_of_heap e1, cell_of_heap e2, cell_of_heap e2, h.below hb (Nat.le_refl _), hb⟩

theorem anewNil (P T : Int) (hm : Lay.may P T = false) (a : Option Addr) (n c : Nat) (w : World) :
    Calls Try.prog 25 #[.agg #[.int .i64 P, .int .i64 T, .slice a n c]] w fun e w' => e = .returned (.pointer none) ∧ Below w.heap.size w w' := by
  have M := hide (fun w => lmay P T w)
  rw [hm] at M
  have h0 : DrawsIn w a [] := fun h => absurd rfl h
  have HW := SetAt.new w P T a n c [] h0 75 26
  have c0 := HW.l0
  have c1 := HW.l1
  have HB := hide HW.below
  clear h0 HW
  go_enter Try.func25, Try.ntmps25
  go_wp2_with fail
  refine (M.out _).mono ?_
  rintro e w1 ⟨rfl, hb⟩
  have HB1 := hide (HB.out.trans (hb.mono HB.out.size))
  clear hb c0 c1
  go_wp2
  go_ret
  exact ⟨rfl, HB1.out⟩

set_option maxHeartbeats 2000000 in
theorem anew {R : Res} {w0 w : World} (l : Loc R) (ho : Own R w0 w) (pg : Nat) (T : Int) (hm : Lay.may pg T = true) (ds : List Nat) (hl : ds.length ≤ 1000000000) (a : Option Addr) (c : Nat) (hz : a = none → ds = [] ∧ c = 0) (hd : DrawsIn w a ds) :
    Calls Try.prog 25 #[.agg #[.int .i64 (pg : Int), .int .i64 T, .slice a ds.length c]] w fun e w' => ∃ q p r, e = .returned (.pointer (some ⟨q, 0, none⟩)) ∧ Own (Sep (AX q (pg : Int) T p r (St.first (Lay.words pg T).toNat) pg ds 1 [(kOf 0 pg, ds.getD 0 0, ())]) R) w0 w' := by
  have M := hide (fun w => lmay pg T w)
  rw [hm] at M
  have W := hide (fun w => words52 pg T hm w)
  obtain ⟨m1, m2, m3, m4⟩ := Lay.may_iff.1 hm
  obtain ⟨n, hn⟩ : ∃ n, ds.length = n := ⟨_, rfl⟩
  have HL := hide hn
  have HW := SetAt.new w pg T a n c ds hd 75 26
  have c0 := HW.l0
  have c1 := HW.l1
  have HW2 := hide HW
  have HO := hide ho
  clear hd HW ho hm
  rw [hn]
  clear hn
  go_enter Try.func25, Try.ntmps25
  go_wp2_with fail
  refine (M.out _).mono ?_
  rintro e w1 ⟨rfl, hb⟩
  have H1 := hide (HW2.out.grow hb)
  clear hb HW2 c0 c1
  go_wp2
  have J1 : Hid (SetAt w w.heap.size pg T a n c ds w1.drew) := hide (H1.out.grow ((Alike.drewN w1 1).below _))
  have u0 : ∀ u : Mem (SetAt w w.heap.size pg T a n c ds), u.w'.cell? ⟨w.heap.size, 0, none⟩ = some (.int .i64 (pg : Int)) := fun u => u.h.c0
  have u1 : ∀ u : Mem (SetAt w w.heap.size pg T a n c ds), u.w'.cell? ⟨w.heap.size, 1, none⟩ = some (.int .i64 T) := fun u => u.h.c1
  have u2 : ∀ u : Mem (SetAt w w.heap.size pg T a n c ds), u.w'.cell? ⟨w.heap.size, 2, none⟩ = some (.slice a n c) := fun u => u.h.c2
  have u3 : ∀ u : Mem (SetAt w w.heap.size pg T a n c ds), u.w'.cell? ⟨w.heap.size + 1, 0, none⟩ = some (.int .i64 (pg : Int)) := fun u => u.h.l0
  have u4 : ∀ u : Mem (SetAt w w.heap.size pg T a n c ds), u.w'.cell? ⟨w.heap.size + 1, 1, none⟩ = some (.int .i64 T) := fun u => u.h.l1
  have hne : Nonempty (Mem (SetAt w w.heap.size pg T a n c ds)) := ⟨⟨_, J1.out⟩⟩
  refine region_start (J := SetAt w w.heap.size pg T a n c ds) (by kernel_rfl) ?_
  refine stretch (fuel := 5) (by kernel_rfl) (fun _ _ _ _ _ h => h) J1.out [0, 1, 3, 4, 5, 6] (by kernel_rfl) ?_
  simp only [List.filterMap_cons, List.filterMap_nil, List.getElem?_toArray, List.getElem?_cons_zero, List.getElem?_cons_succ]
  show wpQuiet _ _ _ _ [_, _, _, _, _, _] _
  repeat (go_big_quiet_step (fail))
  refine wpQuiet_nil ?_
  refine wpAnyJ_writer (i := 2) rfl (by kernel_rfl) (fun K hK => ?_)
  go_simp
  refine (W.out _).mono ?_
  rintro e w2 ⟨p, b, rfl, hS, hp, hb1, hb2⟩
  have J2 := hide (J1.out.grow hb2)
  have O2 := hide (Own.fresh (R1 := SS p (St.first (Lay.words pg T).toNat)) l (HO.out.below l J1.out.below) (G := fun x => x = p ∨ x = b) ⟨b, hS, fun _ => Iff.rfl⟩ (by rintro x (rfl | rfl) <;> assumption) hb2)
  clear hS hp hb1 hb2 W
  refine hK _ _ J2.out ?_
  clear hK K
  refine wpAnyJ_writer (i := 7) rfl (by kernel_rfl) (fun K hK => ?_)
  go_simp
  have HN := new10 w2 pg (by omega) (by omega) ds hl a c hz J2.out.row
  rw [HL.out] at HN
  refine HN.mono ?_
  rintro e w3 ⟨r, t, T', va, vc, rfl, hR, hn3, hb3⟩
  have J3 := hide (J2.out.grow hb3)
  have O3 := hide (O2.out.runsNew (Loc.ss.sep l) hR hn3 hb3)
  clear hR hn3 hb3 HN
  refine hK _ _ J3.out ?_
  clear hK K
  refine stretch (fuel := 2) (by kernel_rfl) (fun _ _ _ _ _ h => h) J3.out [8] (by kernel_rfl) ?_
  simp only [List.filterMap_cons, List.filterMap_nil, List.getElem?_toArray, List.getElem?_cons_zero, List.getElem?_cons_succ]
  show wpQuiet _ _ _ _ [_] _
  repeat (go_big_quiet_step (fail))
  refine wpQuiet_nil ?_
  refine wpAnyJ_writer (i := 9) rfl (by kernel_rfl) (fun K hK => ?_)
  go_simp
  have J4 := hide (J3.out.grow (grown1 w3 (.cells #[.int .i64 (pg : Int), .int .i64 T, .pointer (some ⟨p, 0, none⟩), .pointer (some ⟨r, 0, none⟩)] 117)))
  have O4 := hide (Own.fresh (R1 := AH w3.heap.size pg T p r) (Loc.rr.sep (Loc.ss.sep l)) O3.out (G := fun x => x = w3.heap.size) ⟨heap_alloc_at _ _, fun _ => Iff.rfl⟩ (fun x hx => by rw [hx]; exact Nat.le_refl _) (grown1 w3 _))
  refine hK _ _ J4.out ?_
  clear hK K
  refine stretch (fuel := 0) (by kernel_rfl) (fun _ _ _ _ _ h => h) J4.out [10] (by kernel_rfl) ?_
  simp only [List.filterMap_cons, List.filterMap_nil, List.getElem?_toArray, List.getElem?_cons_zero, List.getElem?_cons_succ]
  show wpQuiet _ _ _ _ [_] _
  repeat (go_big_quiet_step (fail))
  refine wpQuiet_nil ?_
  refine wpAnyJ_done (by kernel_rfl) ?_
  clear u0 u1 u2 u3 u4 hne J1 J2 J3 J4 O2 O3 H1
  go_wp2
  go_ret
  exact ⟨_, p, r, rfl, O4.out.cast (by unfold AX; ac_rfl)⟩
end Go.Proofs.Ytafamfjgehnddaa

namespace Go.Proofs.Ytafamfjgehnddaa
open Go.RowKit

theorem aw1 : takeA 3 [(kOf 0 8, 0, ())] = (0, 0) ∧ takeS [] 3 1 [(kOf 0 8, 0, ())] = (2, [(40963, 0, ())]) := by decide
theorem aw2 : takeA 2 [(40963, 0, ())] = (3, 0) ∧ takeS [] 2 2 [(40963, 0, ())] = (3, [(24581, 0, ())]) := by decide
theorem aw3 : putA 8 0 3 [(24581, 0, ())] = 0 ∧ putS 8 [] 0 3 3 [(24581, 0, ())] = (4, [(24576, 0, ()), (24581, 0, ())]) := by decide
theorem aw4 : takeA 3 [(24576, 0, ()), (24581, 0, ())] = (0, 0) := by decide
theorem aw0 : ([] : List Nat).getD 0 0 = 0 := rfl
theorem awF1 : Fit 1 8 [] 1 [(kOf 0 8, 0, ())] := Fit.new (ds := []) (by decide) (by decide) (by decide)
theorem awF2 : Fit 2 8 [] 2 [(40963, 0, ())] := by have := awF1.take 3; rw [aw1.2] at this; exact this
theorem awF3 : Fit 3 8 [] 3 [(24581, 0, ())] := by have := awF2.take 2; rw [aw2.2] at this; exact this
theorem awF4 : Fit 4 8 [] 4 [(24576, 0, ()), (24581, 0, ())] := by have := awF3.put 0 3; rw [aw3.2] at this; exact this
theorem awR0 : (([(24576, 0, ()), (24581, 0, ())] : RL).map (·.1)).map rOf = [(0, 3), (5, 3)] := by decide
theorem awR : runsOf [(24576, 0, ()), (24581, 0, ())] = [(0, 3), (5, 3)] := (runsOf_is awF4.good (by rw [awR0]) (by decide)).symm

end Go.Proofs.Ytafamfjgehnddaa

namespace Go.Proofs.Ytafamfjgehnddaa
open Go.RowKit

theorem St.first_len (n : Nat) : (St.first n).words.length = n := by simp [St.first]
theorem St.first_zero (n : Nat) (h : 1 ≤ n) : (St.first n).words.getD 0 0 = 1 := by
  obtain ⟨m, rfl⟩ : ∃ m, n = m + 1 := ⟨n - 1, by omega⟩
  simp [St.first, List.replicate_succ]
theorem St.first_last (n i : Nat) (h : 1 ≤ i) : (St.first n).words.getD i 0 = 0 := by
  simp only [St.first, List.getD_eq_getElem?_getD, List.getElem?_set]
  rw [if_neg (by omega)]
  by_cases h : i < n
  · simp [h]
  · simp [h]

end Go.Proofs.Ytafamfjgehnddaa

namespace Go.Proofs.Ytafamfjgehnddaa
open Go.RowKit

/-- A block. -/
def BO (B : Nat) (o : Obj) : Res := fun w G => w.heap[B]? = some o ∧ ∀ x, G x ↔ x = B
theorem Loc.bo {B : Nat} {o : Obj} : Loc (BO B o) := ⟨fun ⟨h, e⟩ k hn => ⟨(k.block B (lt_of_heap h) (hn B ((e B).2 rfl))).trans h, e⟩, fun {w G x} ⟨h, e⟩ hx => by rw [(e x).1 hx]; exact lt_of_heap h⟩
theorem Own.bo {A1 A2 : Res} {B : Nat} {o : Obj} {w0 w : World} (h : Own (Sep A1 (Sep A2 (BO B o))) w0 w) : w.heap[B]? = some o := by
  obtain ⟨_, ⟨_, _, _, ⟨_, _, _, a, _⟩, _⟩, _⟩ := h
  exact a.1
theorem Own.bo1 {A1 : Res} {B : Nat} {o : Obj} {w0 w : World} (h : Own (Sep A1 (BO B o)) w0 w) : w.heap[B]? = some o := by
  obtain ⟨_, ⟨_, _, _, a, _⟩, _⟩ := h
  exact a.1
/-- A block as the class of worlds. -/
def BkAt (B : Nat) (o : Obj) (w : World) : Prop := w.heap[B]? = some o

theorem one_fit {pg : Nat} {n : Int} {d : Nat} (_h1 : 1 ≤ n) (h2 : n ≤ pg) : fitL n [(kOf 0 pg, d, ())] = some (kOf 0 pg, d, ()) := by
  unfold fitL ceilL
  have : ¬ (kOf 0 pg < kOf 0 n) := by unfold kOf; omega
  simp [this]
theorem one_take {pg : Nat} {n : Int} {d : Nat} (h1 : 1 ≤ n) (h2 : n ≤ pg) : takeA n [(kOf 0 pg, d, ())] = (0, 0) := by
  unfold takeA
  rw [if_neg (by omega), one_fit h1 h2]
  simp [rA_k (a := 0) (n := pg) (by omega) (by omega)]
theorem one_left {pg : Nat} {n : Int} {d dn : Nat} {ds : List Nat} (h1 : 1 ≤ n) (h2 : n ≤ pg) (h3 : pg ≤ 4096) : totL (takeS ds n dn [(kOf 0 pg, d, ())]).2 = pg - n := by
  unfold takeS
  rw [if_neg (by omega), one_fit h1 h2]
  simp only [cutL, rA_k (a := 0) (n := (pg : Int)) (by omega) (by omega), rN_k (a := 0) (n := (pg : Int)) (by omega) (by omega)]
  split
  · simp [delL, insL, totL]
    exact rN_k (by omega) (by omega)
  · simp [delL, totL]
    omega
theorem one_tot {pg : Nat} {d : Nat} : totL [(kOf 0 pg, d, ())] = pg := by
  simp [totL]
  exact rN_k (by omega) (by omega)
theorem put_len (s : St) (i v : Nat) : (s.put i v).words.length = s.words.length := by simp [St.put, St.access]
theorem load_words (s : St) (i : Nat) : (s.load i).words = s.words := by simp only [St.load, St.access]; exact set_getD _ _
theorem put_same (s : St) (i v : Nat) (h : i < s.words.length) : (s.put i v).words.getD i 0 = v := by simp [St.put, St.access, h]
theorem put_other (s : St) (i j v : Nat) (h : i ≠ j) : (s.put i v).words.getD j 0 = s.words.getD j 0 := by
  simp [St.put, St.access, List.getD_eq_getElem?_getD, h]
end Go.Proofs.Ytafamfjgehnddaa
