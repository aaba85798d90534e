/- Package runs: New; the draws of the laws. -/
import Derived.Test.YtafamfjgehnddaaRunLay
import Derived.Test.YtafamfjgehnddaaPhaseIn
import Derived.Sort.LoopGhostIn
import Derived.Sort.QuietIn
import Derived.OwnWalkIn
import Derived.Shelf.Abstract
import Derived.Lib.SliceRun
import Derived.WalkSmall
import Derived.Laws.AppendOwn
namespace Go.Proofs.Ytafamfjgehnddaa
open Go.RowKit

def drawVals (ds : List Nat) : List Value := ds.map fun (d : Nat) => Value.int .u32 (d : Int)
theorem drawVals_length (ds : List Nat) : (drawVals ds).length = ds.length := by simp [drawVals]
theorem infoU32 : (Try.prog.info? 38).map (fun i => (i.zero, i.size, i.bytes)) = some (some (.int .u32 0), 1, 4) := by kernel_rfl
theorem owned_empty32 (w : World) : (w.alloc (.cells #[] 38)).ownsRow w.heap.size 38 1 (.slice (some ⟨w.heap.size, 0, none⟩) 0 0) 0 [] :=
  ⟨rfl, .inr ⟨w.heap.size, 0, #[], rfl, Nat.le_refl _, heap_alloc_at _ _, Nat.le_refl _, Nat.zero_le _, rfl, rfl⟩⟩
theorem below_new32 {w w' : World} {o : Obj} (h : (w.alloc o).grownBy w' (Value.slice (some ⟨w.heap.size, 0, none⟩) 0 0).ownBlock) : Below w.heap.size w w' :=
  ⟨h.os, h.tape, h.output, by have := h.size; simp at this; omega, fun k hk => by rw [h.block k (by simp; omega) (by simp [Value.ownBlock]; omega), Below.heap_alloc _ _ _ hk]⟩
theorem draws_of_owns {w : World} {base n : Nat} {v : Value} {ds : List Nat} (h : w.ownsRow base 38 1 v n (drawVals ds)) : ∃ a c, v = .slice a ds.length c ∧ (a = none → ds = [] ∧ c = 0) ∧ DrawsAt w a ds ∧ (∀ g, a = some g → g.off = 0 ∧ g.spot = none ∧ base ≤ g.block) := by
  have hl : ds.length = n := by have := h.1; rw [drawVals_length] at this; omega
  have hh := h
  rcases h.2 with ⟨rfl, h0⟩ | ⟨g, cap, cur, rfl, hb, hg, hle, hm, hsz, hcur⟩
  · have : ds = [] := List.length_eq_zero_iff.1 (by omega)
    subst this
    exact ⟨none, 0, rfl, fun _ => ⟨rfl, rfl⟩, fun hne => absurd rfl hne, fun g e => by simp at e⟩
  · refine ⟨_, _, by rw [hl], fun e => by simp at e, fun _ => ⟨g, rfl, lt_of_heap hg, fun i hi => ?_⟩, fun g' e => by cases e; exact ⟨rfl, rfl, hb⟩⟩
    rw [World.ownsRow.cellAt hh i (by omega)]
    simp [drawVals, List.getD, hi]

/-- Draws that lie anywhere. -/
def DrawsIn (w : World) (a : Option Addr) (ds : List Nat) : Prop := ds ≠ [] → ∃ g o, a = some ⟨g, o, none⟩ ∧ g < w.heap.size ∧ ∀ i, i < ds.length → w.cell? ⟨g, o + i, none⟩ = some (.int .u32 ((ds.getD i 0 : Nat) : Int))
theorem DrawsAt.into {w : World} {a : Option Addr} {ds : List Nat} (h : DrawsAt w a ds) : DrawsIn w a ds := fun hn => by
  obtain ⟨g, e, hg, hc⟩ := h hn
  exact ⟨g, 0, e, hg, fun i hi => by rw [Nat.zero_add]; exact hc i hi⟩
theorem DrawsIn.below {w w' : World} {a : Option Addr} {ds : List Nat} (h : DrawsIn w a ds) {n : Nat} (b : Below n w w') (hn : w.heap.size ≤ n) : DrawsIn w' a ds := fun hd => by
  obtain ⟨g, o, e, hg, hc⟩ := h hd
  exact ⟨g, o, e, Nat.lt_of_lt_of_le hg b.size, fun i hi => (b.cell (p := ⟨g, o + i, none⟩) (by simp; omega)).trans (hc i hi)⟩

set_option maxHeartbeats 1000000 in
theorem clone31 (ds : List Nat) (hl : ds.length ≤ 1000000000) (a : Option Addr) (c : Nat) (hz : a = none → ds = [] ∧ c = 0) (w : World) (h : DrawsIn w a ds) :
    Calls Try.prog 80 #[.slice a ds.length c] w fun e w' => ∃ v, e = .returned v ∧ w'.ownsRow w.heap.size 38 1 v ds.length (drawVals ds) ∧ Below w.heap.size w w' := by
  obtain ⟨i0, hi, hz0, hz1, hz2⟩ := info_parts infoU32
  cases a with
  | none =>
    obtain ⟨rfl, rfl⟩ := hz rfl
    clear hz h
    have hnil := fun w => Lib.run_eql_slice_nil (P := Try.prog) w 73 38 none 0 0 0 0 Try.underlying73
    go_enter Try.func80, Try.ntmps80
    go_wp2
    go_ret
    exact ⟨_, rfl, World.ownsRow_nil _ _ _ _, Below.refl _ _⟩
  | some ad =>
    have HO := hide (owned_empty32 w)
    have HN : Hid (∀ j u, (drawVals ds)[j]? = some u → (w.alloc (.cells #[] 38)).cell? (ad.add j) = some u) := hide (fun j u hj => by
      have hjl : j < ds.length := by have := (List.getElem?_eq_some_iff.1 hj).1; rwa [drawVals_length] at this
      obtain ⟨g, o, e, hg, hc⟩ := h (fun e => by rw [e] at hjl; simp at hjl)
      cases e
      have hu : u = .int .u32 ((ds.getD j 0 : Nat) : Int) := by simpa [drawVals, List.getD, hjl, eq_comm] using hj
      have ea : (⟨g, o, none⟩ : Addr).add j = ⟨g, o + j, none⟩ := by unfold Addr.add; split <;> simp_all
      rw [ea, hu, ← hc j hjl]
      exact World.cell?_of_block (Below.heap_alloc _ _ _ hg))
    obtain ⟨n, hn⟩ : ∃ n, ds.length = n := ⟨_, rfl⟩
    have HL := hide hn
    rw [hn] at hl ⊢
    clear hz hn h
    have hnil := fun w => Lib.run_eql_slice_nil (P := Try.prog) w 73 38 (some ad) n c 0 0 Try.underlying73
    go_enter Try.func80, Try.ntmps80
    go_wp2_with (at_builtin; refine wpList_append_own _ rfl _ _ 73 rfl w.heap.size 38 i0 (.int .u32 0) 1 4 Try.underlying73 hi hz0 hz1 hz2 rfl (by decide) _ 0 [] rfl HO.out ad n c (drawVals ds) rfl (by rw [drawVals_length, HL.out, Nat.mul_one]) HN.out (fun u hu => by simp [drawVals] at hu; obtain ⟨_, _, rfl⟩ := hu; rfl) (by unfold maxLen; omega) (by omega) (by simp) ?_; intro v' w3 hown' hgrow' _)
    go_ret
    refine ⟨_, rfl, ?_, below_new32 hgrow'⟩
    simpa using hown'

theorem newNil (w : World) (p : Int) (a : Option Addr) (k c : Nat) (hp : p < 1 ∨ 4096 < p) :
    Calls Try.prog 57 #[.int .i64 p, .slice a k c] w fun e w' => e = .returned (.pointer none) ∧ Below w.heap.size w w' := by
  by_cases h1 : p < 1
  · clear hp
    go_enter Try.func57, Try.ntmps57
    go_wp2
    go_ret
    exact ⟨rfl, Below.refl _ _⟩
  · have h2 : 4096 < p := by omega
    clear hp
    go_enter Try.func57, Try.ntmps57
    go_wp2
    go_ret
    exact ⟨rfl, Below.refl _ _⟩

set_option maxHeartbeats 1000000 in
theorem new10 (w : World) (pg : Nat) (h1 : 1 ≤ pg) (h2 : pg ≤ 4096) (ds : List Nat) (hl : ds.length ≤ 1000000000) (a : Option Addr) (c : Nat) (hz : a = none → ds = [] ∧ c = 0) (h : DrawsIn w a ds) :
    Calls Try.prog 57 #[.int .i64 (pg : Int), .slice a ds.length c] w fun e w' => ∃ r t T b c', e = .returned (.pointer (some ⟨r, 0, none⟩)) ∧ RAt w' r t T pg b c' ds 1 [(kOf 0 pg, ds.getD 0 0, ())] ∧ (∀ x, RF r t T b ds x → w.heap.size ≤ x) ∧ Below w.heap.size w w' := by
  have HN := hide (newE w)
  have HC := fun w' (hb : Below w.heap.size w w') => hide (clone31 ds hl a c hz w' (h.below hb (Nat.le_refl _)))
  obtain ⟨n, hn⟩ : ∃ n, ds.length = n := ⟨_, rfl⟩
  have HL := hide hn
  clear h hz
  rw [hn] at HC ⊢
  go_enter Try.func57, Try.ntmps57
  go_wp2_with fail
  refine HN.out.mono ?_
  rintro e w1 ⟨rfl, hT, hb1⟩
  have HT := hide hT
  have HB1 := hide hb1
  have HCC := HC w1 hb1
  clear hT hb1 hn
  go_wp2_with fail
  refine HCC.out.mono ?_
  rintro e w2 ⟨v, rfl, hown, hb2⟩
  rw [← HL.out] at hown
  obtain ⟨va, vc, rfl, _, hda, hab⟩ := draws_of_owns hown
  have HDA := hide hda
  have HAB := hide hab
  have HB2 := hide hb2
  clear hown hb2 hda hab HC
  rw [HL.out]
  have htl : w.heap.size < w1.heap.size := lt_of_heap HT.out.head
  have h0 : RAt (w2.alloc (.cells (rCells pg w.heap.size va n vc 0) 144)) w2.heap.size w.heap.size .nil pg va vc ds 0 [] := by
    have hbb : Below w2.heap.size w2 (w2.alloc (.cells (rCells pg w.heap.size va n vc 0) 144)) := (Below.refl _ w2).alloc (Nat.le_refl _) _
    have hs2 := HB2.out.size
    refine ⟨by rw [← HL.out]; exact heap_alloc_at _ _, (HT.out.below HB2.out).below hbb, fun e => ?_, HDA.out.kept (Below.only hbb (fun _ => False)) (fun _ _ _ h => h), fun hd g e => ?_⟩
    · rcases e with e | e
      · omega
      · exact e
    · obtain ⟨g', e', hg', _⟩ := HDA.out hd
      rw [e] at e'; cases e'
      have q := (HAB.out _ e).2.2
      simp only at q
      refine ⟨by omega, fun u => ?_⟩
      rcases u with u | u
      · omega
      · exact u
  have HLAY := hide (lay32 _ w2.heap.size w.heap.size .nil pg va vc ds 0 [] h0 0 pg (by omega) rfl (by simp) (by omega))
  have HAX : Hid (∀ x, ds ≠ [] ∧ va = some ⟨x, 0, none⟩ → w.heap.size ≤ x) := hide (fun x hx => by have q := (HAB.out _ hx.2).2.2; simp only at q; have := HB1.out.size; omega)
  clear h0
  unfold rCells at HLAY
  go_wp2_with fail
  refine HLAY.out.mono ?_
  rintro e w3 ⟨rfl, T', g1, g2, g3⟩
  have HG1 := hide g1
  have HG2 := hide g2
  have HG3 := hide g3
  clear g1 g2 g3
  go_wp2
  go_ret
  have hs2 := HB2.out.size
  have hs1 := HB1.out.size
  refine ⟨_, _, T', va, vc, rfl, by simpa [insL] using HG1.out, fun x hx => ?_, ?_⟩
  · rcases hx with rfl | hx | hx
    · omega
    · rcases HG3.out x (.inr hx) with (q | q | q) | q
      · omega
      · omega
      · exact q.elim
      · simp at q; omega
    · exact HAX.out x hx
  · have b12 : Below w.heap.size w w2 := HB1.out.trans (HB2.out.mono HB1.out.size)
    refine (b12.alloc (by omega) _).trans (HG2.out.below (by simp; omega) (fun i hi => ?_))
    rcases hi with rfl | rfl | q
    · omega
    · omega
    · exact q.elim

/-- What lies at place k behind an address. -/
def AtB (w : World) (ao : Option Addr) (k : Nat) (v : Value) : Prop := ∃ b o, ao = some ⟨b, o, none⟩ ∧ b < w.heap.size ∧ w.cell? ⟨b, o + k, none⟩ = some v
theorem AtB.below {w w' : World} {ao : Option Addr} {k : Nat} {v : Value} {n : Nat} (h : AtB w ao k v) (hb : Below n w w') (hn : w.heap.size ≤ n) : AtB w' ao k v := by
  obtain ⟨b, o, e, h1, h2⟩ := h
  exact ⟨b, o, e, Nat.lt_of_lt_of_le h1 hb.size, (hb.cell (p := ⟨b, o + k, none⟩) (by simp; omega)).trans h2⟩
/-- The bytes f of a list of n. -/
def BytesAt (w : World) (ao : Option Addr) (n : Nat) (f : Nat → Nat) : Prop := ∀ k, k < n → f k < 256 ∧ AtB w ao k (.int .u8 (f k : Nat))
theorem BytesAt.below {w w' : World} {ao : Option Addr} {n m : Nat} {f : Nat → Nat} (h : BytesAt w ao n f) (hb : Below m w w') (hm : w.heap.size ≤ m) : BytesAt w' ao n f := fun k hk => ⟨(h k hk).1, (h k hk).2.below hb hm⟩
def drawOf (b : Nat) : Nat := b % 9 * 2 ^ (b % 25)
def drawsOf (f : Nat → Nat) (n : Nat) : List Nat := (List.range n).map fun i => drawOf (f i)
theorem drawsOf_length (f : Nat → Nat) (n : Nat) : (drawsOf f n).length = n := by simp [drawsOf]
theorem drawOf_lt (b : Nat) : drawOf b < 4294967296 := by
  unfold drawOf
  have h1 : b % 9 < 9 := Nat.mod_lt _ (by decide)
  have h2 : 2 ^ (b % 25) ≤ 2 ^ 24 := Nat.pow_le_pow_right (by decide) (by omega)
  calc b % 9 * 2 ^ (b % 25) ≤ 8 * 2 ^ 24 := Nat.mul_le_mul (by omega) h2
    _ < 4294967296 := by decide

attribute [local go_sem] Oper.semAt_some

end Go.Proofs.Ytafamfjgehnddaa
