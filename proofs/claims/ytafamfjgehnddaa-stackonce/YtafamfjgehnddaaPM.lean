/- Both arenas of a setup without draws. A list of numbers of 8 bits that came in, opened (any seat). What laws play with: setups by numbers, who is picked. Many things beside one another, by number; rows of cells by number. (Of any program.) Rows of cells that are made. Rows that are made in a drawn region, each of as many cells as its elements have; four of them in any order. -/
import Derived.Test.YtafamfjgehnddaaPY
import Derived.Test.YtafamfjgehnddaaBo
import Derived.Test.YtafamfjgehnddaaBase
import Derived.Test.YtafamfjgehnddaaHeap
import Derived.Deep.Slices
import Derived.ChangeSame
import Derived.Carry
import Derived.Test.YtafamfjgehnddaaLayCalls
import Derived.Test.YtafamfjgehnddaaPS
import Derived.Test.YtafamfjgehnddaaPhaseTwo
namespace Go.Proofs.Ytafamfjgehnddaa
open Go.RowKit

set_option maxHeartbeats 4000000 in
set_option maxRecDepth 100000 in
theorem plArenas {R : Res} {w0 w : World} (lR : Loc R) (h : Own R w0 w) (pg : Nat) (T : Int) (hm : Lay.may pg T = true) :
    Calls Try.prog 33 #[.agg #[.int .i64 (pg : Int), .int .i64 T, .slice none 0 0]] w fun e w' => ∃ q p r a p' r', e = .returned (.tuple #[.pointer (some ⟨q, 0, none⟩), .pointer (some ⟨a, 0, none⟩)]) ∧
      Own (Sep (AX q (pg : Int) T p r (St.first (Lay.words pg T).toNat) pg [] 1 [(kOf 0 pg, ([] : List Nat).getD 0 0, ())]) (Sep (MX a (pg : Int) T p' r' (St.first (Lay.words pg T).toNat) pg [] 1 [(kOf 0 pg, ([] : List Nat).getD 0 0, ())]) R)) w0 w' := by
  have NA := fun (R : Res) (w0 u : World) (l : Loc R) (ho : Own R w0 u) => @anew R w0 u l ho pg T hm [] (by simp) none 0 (fun _ => ⟨rfl, rfl⟩) (fun h => absurd rfl h)
  have NM := fun (R : Res) (w0 u : World) (l : Loc R) (ho : Own R w0 u) => @memNew R w0 u l ho pg T hm [] (by simp) none 0 (fun _ => ⟨rfl, rfl⟩) (fun h => absurd rfl h)
  rw [List.length_nil] at NA NM
  generalize ([(kOf 0 pg, ([] : List Nat).getD 0 0, ())] : RL) = rl at *
  generalize St.first (Lay.words pg T).toNat = s at *
  have HNA := hide NA
  have HNM := hide NM
  clear NA NM hm
  obtain ⟨OO, hOO⟩ : ∃ OO : Obj, OO = .cells #[.int .i64 (pg : Int), .int .i64 T, .slice none 0 0] 75 (0, 0) := ⟨_, rfl⟩
  have HOO := hide hOO
  have O1 : Hid (Own (Sep (BO w.heap.size OO) R) w0 (w.alloc (.cells #[.int .i64 (pg : Int), .int .i64 T, .slice none 0 0] 75))) := hide (Own.boNew lR h (by rw [hOO]; exact heap_alloc_at _ _) (Nat.le_refl _) (grown1 _ _))
  clear h hOO
  go_enter Try.func33, Try.ntmps33
  go_wp2
  generalize w.alloc (.cells #[.int .i64 (pg : Int), .int .i64 T, .slice none 0 0] 75) = w1 at *
  generalize w.heap.size = B at *
  have lB : Loc (Sep (BO B OO) R) := Loc.bo.sep lR
  have O2 := hide (O1.out.below lB ((Alike.drewN w1 1).below _))
  have J2 : Hid (BkAt B OO w1.drew) := hide (Own.boAt O2.out)
  have hne : Nonempty (Mem (BkAt B OO)) := ⟨⟨_, J2.out⟩⟩
  have U0 : ∀ u : Mem (BkAt B OO), u.w'.cell? ⟨B, 0, none⟩ = some (.int .i64 (pg : Int)) := fun u => cell_of_heap (by rw [← HOO.out]; exact u.h)
  have U1 : ∀ u : Mem (BkAt B OO), u.w'.cell? ⟨B, 1, none⟩ = some (.int .i64 T) := fun u => cell_of_heap (by rw [← HOO.out]; exact u.h)
  have U2 : ∀ u : Mem (BkAt B OO), u.w'.cell? ⟨B, 2, none⟩ = some (.slice none 0 0) := fun u => cell_of_heap (by rw [← HOO.out]; exact u.h)
  clear O1
  refine region_start (J := BkAt B OO) (by kernel_rfl) ?_
  refine stretch (fuel := 4) (by kernel_rfl) (fun _ _ _ _ _ h => h) J2.out [0, 2] (by kernel_rfl) ?_
  simp only [List.filterMap_cons, List.filterMap_nil, List.getElem?_toArray, List.getElem?_cons_zero, List.getElem?_cons_succ]
  show wpQuiet _ _ _ _ [_, _] _
  repeat (go_big_quiet_step (fail))
  refine wpQuiet_nil ?_
  refine wpAnyJ_writer (i := 1) rfl (by kernel_rfl) (fun K' hK => ?_)
  go_simp
  refine (HNA.out _ _ _ lB O2.out).mono ?_
  rintro e w2 ⟨q, p, r, rfl, o2⟩
  have O3 := hide o2
  refine hK _ _ (o2.has (R := Sep (AX q pg T p r s pg [] 1 rl) R) (by ac_rfl)) ?_
  clear hK K' o2 O2 HNA
  refine wpAnyJ_writer (i := 3) rfl (by kernel_rfl) (fun K' hK => ?_)
  go_simp
  refine (HNM.out _ _ _ (Loc.ax.sep lB) O3.out).mono ?_
  rintro e w3 ⟨a, p', r', rfl, o3⟩
  have O4 := hide (o3.cast (R' := Sep (BO B OO) (Sep (AX q pg T p r s pg [] 1 rl) (Sep (MX a pg T p' r' s pg [] 1 rl) R))) (by ac_rfl))
  refine hK _ _ (Own.boAt O4.out) ?_
  clear hK K' o3 O3 HNM
  refine stretch (fuel := 0) (by kernel_rfl) (fun _ _ _ _ _ h => h) (Own.boAt O4.out) [4, 5] (by kernel_rfl) ?_
  simp only [List.filterMap_cons, List.filterMap_nil, List.getElem?_toArray, List.getElem?_cons_zero, List.getElem?_cons_succ]
  show wpQuiet _ _ _ _ [_, _] _
  repeat (go_big_quiet_step (fail))
  refine wpQuiet_nil ?_
  refine wpAnyJ_done (by kernel_rfl) ?_
  clear hne U0 U1 U2 J2
  have O5 := hide O4.out.drop
  clear O4
  go_wp2_with fail
  refine (storeX O5.out).mono ?_
  rintro e w4 ⟨rfl, rfl⟩
  go_wp2_with fail
  refine (runsX O5.out).mono ?_
  rintro e w4 ⟨rfl, rfl⟩
  go_wp2
  go_ret2
  exact ⟨q, p, r, a, p', r', rfl, O5.out⟩
end Go.Proofs.Ytafamfjgehnddaa

namespace Go.Proofs.Ytafamfjgehnddaa
open Go.ChangeShapes Go.WideShapes Go.ChangeAt Go.RowKit Go.Deep

theorem laidOut : laidOutB Try.prog = true := by kernel_rfl
theorem cellsU8 : Try.prog.cellsOf 5 = 1 := by kernel_rfl

theorem add_at (b o k : Nat) : (⟨b, o, none⟩ : Addr).add k = ⟨b, o + k, none⟩ := by
  by_cases h : k = 0
  · subst h; simp [Addr.add]
  · simp [Addr.add, h]

/-- The place k of such a list. -/
structure ByteAt (w : World) (b o k x : Nat) : Prop where
  cell : w.cell? ⟨b, o + k, none⟩ = some (.int .u8 (x : Int))
  lt : b < w.heap.size
  hx : x < 256

theorem ByteAt.kept {w w' : World} {b o k x : Nat} {B : Nat} (h : ByteAt w b o k x) (hb : Below B w w') (hB : b < B) : ByteAt w' b o k x :=
  ⟨(hb.cell (p := ⟨b, _, none⟩) hB).trans h.cell, Nat.lt_of_lt_of_le h.lt hb.size, h.hx⟩

def BytesIn (w : World) (ao : Option Addr) (len : Nat) : Prop := ∀ k, k < len → ∃ b o x, ao = some ⟨b, o, none⟩ ∧ ByteAt w b o k x

set_option maxRecDepth 100000 in
theorem open_bytes {H : Type} {enc : TypeId × Value → H} {W : World} {v : Value} {d : DataW H} {ps : List MemPlace} {base : Nat} (hv : Value.okWide Try.prog W .any base 22 v)
    (h : DataW.Trod enc Try.prog W 0 (fun _ => true) true 22 v d ps) : ∃ ao len cap, v = .slice ao len cap ∧ len ≤ cap ∧ cap ≤ maxLen ∧ BytesIn W ao len := by
  obtain ⟨a0, len0, cap0, rfl⟩ := okWide_slice Try.underlying22 hv
  obtain ⟨fuel, h⟩ := h
  rw [show (Value.slice a0 len0 cap0).cells.toList = [.slice a0 len0 cap0] from rfl] at h
  rcases open_slice Try.underlying22 h with ⟨hc, _⟩ | ⟨a, len, cap, m, n, D, Pl, hc, _, hl, hm, hmm, _, hx⟩
  · simp only [List.cons.injEq, and_true, Value.slice.injEq] at hc
    obtain ⟨rfl, rfl, rfl⟩ := hc
    exact ⟨none, 0, 0, rfl, Nat.le_refl _, Nat.zero_le _, fun k hk => by omega⟩
  · simp only [List.cons.injEq, and_true, Value.slice.injEq] at hc
    obtain ⟨rfl, rfl, rfl⟩ := hc
    simp only [if_true] at hmm
    subst hmm
    refine ⟨some a, len0, m, rfl, hl, hm, fun k hk => ?_⟩
    rw [cellsU8] at hx
    have hspot : a.spot = none := by
      obtain ⟨cs', h1, h2⟩ := hx 0 (by omega)
      obtain ⟨_, hlen, hcell⟩ := World.cells?_some h1
      have h0 := hcell 0 (by omega)
      rw [List.getElem?_eq_getElem (by omega)] at h0
      simpa [Addr.add] using World.cell?_spot h0
    obtain ⟨b, o, sp⟩ := a
    simp only at hspot
    subst hspot
    obtain ⟨cs', h1, h2⟩ := hx k (by omega)
    obtain ⟨_, hlen, hcell⟩ := World.cells?_some h1
    match cs', hlen with
    | [v0], _ =>
      obtain ⟨n0, e0, _, w0⟩ := DataW.trod_int Try.underlying5 h2
      simp only [List.cons.injEq, and_true] at e0
      subst e0
      obtain ⟨x0, hx0, rfl⟩ := u8_nat w0
      have a0 := hcell 0 (by omega)
      rw [add_at, add_at] at a0
      simp only [Nat.mul_one, Nat.add_zero, List.getElem?_cons_zero] at a0
      exact ⟨b, o, x0, rfl, a0, World.block_lt_of_cell? W _ a0, hx0⟩

end Go.Proofs.Ytafamfjgehnddaa

namespace Go.Proofs.Ytafamfjgehnddaa
open Go.RowKit

set_option maxHeartbeats 1000000 in
theorem plSetup20 (p t : Nat) (hp : p < 256) (ht : t < 256) (w : World) :
    Calls Try.prog 32 #[.int .u8 (p : Int), .int .u8 (t : Int), .int .i64 20, .slice none 0 0] w fun e w' => e = .returned (.agg #[.int .i64 ((p % 20 + 1 : Nat) : Int), .int .i64 ((t % 6 + 1 : Nat) : Int), .slice none 0 0]) ∧ Below w.heap.size w w' := by
  obtain ⟨x, hx⟩ : ∃ x : Nat, p % 20 + 1 = x := ⟨_, rfl⟩
  obtain ⟨y, hy⟩ : ∃ y : Nat, t % 6 + 1 = y := ⟨_, rfl⟩
  have ex : 1 + (p : Int) % 20 = (x : Int) := by omega
  have ey : 1 + (t : Int) % 6 = (y : Int) := by omega
  have x1 : 1 ≤ x ∧ x ≤ 20 := by omega
  have y1 : 1 ≤ y ∧ y ≤ 6 := by omega
  rw [hx, hy]
  clear hx hy
  have h1 := heap_alloc_at w (.cells #[.int .i64 0, .int .i64 0, .slice none 0 0] 75)
  have h2 := heap_alloc_old (o := .cells #[.int .i64 x, .int .i64 y, .slice none 0 0] 75) h1
  have h3 := heap_alloc_at (w.alloc (.cells #[.int .i64 0, .int .i64 0, .slice none 0 0] 75)) (.cells #[.int .i64 x, .int .i64 y, .slice none 0 0] 75)
  have hz : (w.alloc (.cells #[.int .i64 0, .int .i64 0, .slice none 0 0] 75)).heap.size = w.heap.size + 1 := by simp
  rw [hz] at h3
  have HB := hide ((grown1 w (.cells #[.int .i64 0, .int .i64 0, .slice none 0 0] 75)).trans ((grown1 (w.alloc (.cells #[.int .i64 0, .int .i64 0, .slice none 0 0] 75)) (.cells #[.int .i64 x, .int .i64 y, .slice none 0 0] 75)).mono (by simp)))
  have H2 := hide h2
  have H3 := hide h3
  clear h1 h2 h3 hz
  go_enter Try.func32, Try.ntmps32
  go_wp2
  generalize (w.alloc (.cells #[.int .i64 0, .int .i64 0, .slice none 0 0] 75)).alloc (.cells #[.int .i64 x, .int .i64 y, .slice none 0 0] 75) = w2 at *
  generalize hb : w.heap.size = b at *
  have HBB := hide hb
  clear hb
  go_loopw [10] (fun i wr => i = .int .i64 0 ∧ wr = w2) (fun _ _ => 0)
  case atStart => exact ⟨rfl, rfl⟩
  case round =>
    obtain ⟨rfl, rfl⟩ := hrel
    have c0 : wr.cell? ⟨b + 1, 0, none⟩ = some (.int .i64 x) := cell_of_heap H3.out
    have c1 : wr.cell? ⟨b + 1, 1, none⟩ = some (.int .i64 y) := cell_of_heap H3.out
    have c2 : wr.cell? ⟨b + 1, 2, none⟩ = some (.slice none 0 0) := cell_of_heap H3.out
    have r0 : wr.cell? ⟨b, 0, none⟩ = some (.int .i64 0) := cell_of_heap H2.out
    have r1 : wr.cell? ⟨b, 1, none⟩ = some (.int .i64 0) := cell_of_heap H2.out
    have r2 : wr.cell? ⟨b, 2, none⟩ = some (.slice none 0 0) := cell_of_heap H2.out
    have fr : ∀ o, wr.frozen? ⟨b, o, none⟩ = false := fun o => frozen_of_heap H2.out
    have e4 := heap_setCell_at (o := 2) (heap_setCell_at (o := 1) (heap_setCell_at (o := 0) H2.out (.int .i64 x)) (.int .i64 y)) (.slice none 0 0)
    have hl := Nat.le_refl b
    have H4 := hide e4
    have HB4 : Hid (Below b w (((wr.setCell ⟨b, 0, none⟩ (.int .i64 x)).setCell ⟨b, 1, none⟩ (.int .i64 y)).setCell ⟨b, 2, none⟩ (.slice none 0 0))) := hide (((HB.out.setCell (p := ⟨b, 0, none⟩) hl _).setCell (p := ⟨b, 1, none⟩) hl _).setCell (p := ⟨b, 2, none⟩) hl _)
    clear e4 hl
    go_wp2
    clear r0 r1 r2 fr c0 c1 c2 H2 H3 HB
    generalize ((wr.setCell ⟨b, 0, none⟩ (.int .i64 x)).setCell ⟨b, 1, none⟩ (.int .i64 y)).setCell ⟨b, 2, none⟩ (.slice none 0 0) = w4 at *
    have z0 : w4.cell? ⟨b, 0, none⟩ = some (.int .i64 x) := cell_of_heap H4.out
    have z1 : w4.cell? ⟨b, 1, none⟩ = some (.int .i64 y) := cell_of_heap H4.out
    have z2 : w4.cell? ⟨b, 2, none⟩ = some (.slice none 0 0) := cell_of_heap H4.out
    refine bodyPost_ret (by simp [results, Try.results32, z0, z1, z2, go_sem]; try rfl) rfl ?_
    exact ⟨rfl, by rw [HBB.out]; exact HB4.out⟩

set_option maxHeartbeats 1000000 in
theorem plSetup60 (p t : Nat) (hp : p < 256) (ht : t < 256) (w : World) :
    Calls Try.prog 32 #[.int .u8 (p : Int), .int .u8 (t : Int), .int .i64 60, .slice none 0 0] w fun e w' => e = .returned (.agg #[.int .i64 ((p % 60 + 1 : Nat) : Int), .int .i64 ((t % 6 + 1 : Nat) : Int), .slice none 0 0]) ∧ Below w.heap.size w w' := by
  obtain ⟨x, hx⟩ : ∃ x : Nat, p % 60 + 1 = x := ⟨_, rfl⟩
  obtain ⟨y, hy⟩ : ∃ y : Nat, t % 6 + 1 = y := ⟨_, rfl⟩
  have ex : 1 + (p : Int) % 60 = (x : Int) := by omega
  have ey : 1 + (t : Int) % 6 = (y : Int) := by omega
  have x1 : 1 ≤ x ∧ x ≤ 60 := by omega
  have y1 : 1 ≤ y ∧ y ≤ 6 := by omega
  rw [hx, hy]
  clear hx hy
  have h1 := heap_alloc_at w (.cells #[.int .i64 0, .int .i64 0, .slice none 0 0] 75)
  have h2 := heap_alloc_old (o := .cells #[.int .i64 x, .int .i64 y, .slice none 0 0] 75) h1
  have h3 := heap_alloc_at (w.alloc (.cells #[.int .i64 0, .int .i64 0, .slice none 0 0] 75)) (.cells #[.int .i64 x, .int .i64 y, .slice none 0 0] 75)
  have hz : (w.alloc (.cells #[.int .i64 0, .int .i64 0, .slice none 0 0] 75)).heap.size = w.heap.size + 1 := by simp
  rw [hz] at h3
  have HB := hide ((grown1 w (.cells #[.int .i64 0, .int .i64 0, .slice none 0 0] 75)).trans ((grown1 (w.alloc (.cells #[.int .i64 0, .int .i64 0, .slice none 0 0] 75)) (.cells #[.int .i64 x, .int .i64 y, .slice none 0 0] 75)).mono (by simp)))
  have H2 := hide h2
  have H3 := hide h3
  clear h1 h2 h3 hz
  go_enter Try.func32, Try.ntmps32
  go_wp2
  generalize (w.alloc (.cells #[.int .i64 0, .int .i64 0, .slice none 0 0] 75)).alloc (.cells #[.int .i64 x, .int .i64 y, .slice none 0 0] 75) = w2 at *
  generalize hb : w.heap.size = b at *
  have HBB := hide hb
  clear hb
  go_loopw [10] (fun i wr => i = .int .i64 0 ∧ wr = w2) (fun _ _ => 0)
  case atStart => exact ⟨rfl, rfl⟩
  case round =>
    obtain ⟨rfl, rfl⟩ := hrel
    have c0 : wr.cell? ⟨b + 1, 0, none⟩ = some (.int .i64 x) := cell_of_heap H3.out
    have c1 : wr.cell? ⟨b + 1, 1, none⟩ = some (.int .i64 y) := cell_of_heap H3.out
    have c2 : wr.cell? ⟨b + 1, 2, none⟩ = some (.slice none 0 0) := cell_of_heap H3.out
    have r0 : wr.cell? ⟨b, 0, none⟩ = some (.int .i64 0) := cell_of_heap H2.out
    have r1 : wr.cell? ⟨b, 1, none⟩ = some (.int .i64 0) := cell_of_heap H2.out
    have r2 : wr.cell? ⟨b, 2, none⟩ = some (.slice none 0 0) := cell_of_heap H2.out
    have fr : ∀ o, wr.frozen? ⟨b, o, none⟩ = false := fun o => frozen_of_heap H2.out
    have e4 := heap_setCell_at (o := 2) (heap_setCell_at (o := 1) (heap_setCell_at (o := 0) H2.out (.int .i64 x)) (.int .i64 y)) (.slice none 0 0)
    have hl := Nat.le_refl b
    have H4 := hide e4
    have HB4 : Hid (Below b w (((wr.setCell ⟨b, 0, none⟩ (.int .i64 x)).setCell ⟨b, 1, none⟩ (.int .i64 y)).setCell ⟨b, 2, none⟩ (.slice none 0 0))) := hide (((HB.out.setCell (p := ⟨b, 0, none⟩) hl _).setCell (p := ⟨b, 1, none⟩) hl _).setCell (p := ⟨b, 2, none⟩) hl _)
    clear e4 hl
    go_wp2
    clear r0 r1 r2 fr c0 c1 c2 H2 H3 HB
    generalize ((wr.setCell ⟨b, 0, none⟩ (.int .i64 x)).setCell ⟨b, 1, none⟩ (.int .i64 y)).setCell ⟨b, 2, none⟩ (.slice none 0 0) = w4 at *
    have z0 : w4.cell? ⟨b, 0, none⟩ = some (.int .i64 x) := cell_of_heap H4.out
    have z1 : w4.cell? ⟨b, 1, none⟩ = some (.int .i64 y) := cell_of_heap H4.out
    have z2 : w4.cell? ⟨b, 2, none⟩ = some (.slice none 0 0) := cell_of_heap H4.out
    refine bodyPost_ret (by simp [results, Try.results32, z0, z1, z2, go_sem]; try rfl) rfl ?_
    exact ⟨rfl, by rw [HBB.out]; exact HB4.out⟩

theorem plWho (w : World) (ao : Option Addr) (len cap : Nat) (hB : BytesIn w ao len) (i n : Nat) (hi : i < 1000000) (hn : 1 ≤ n) (hn2 : n ≤ 64) :
    Calls Try.prog 7 #[.slice ao len cap, .int .i64 (i : Int), .int .i64 (n : Int)] w fun e w' => (∃ t : Nat, t < n ∧ e = .returned (.int .i64 (t : Int))) ∧ w' = w := by
  by_cases h : i < len
  · obtain ⟨b, o, x, rfl, hc⟩ := hB i h
    have c := hc.cell
    have hx := hc.hx
    have hm : x % n < n := Nat.mod_lt _ (by omega)
    have e1 : ((x % n : Nat) : Int) = (x : Int) % (n : Int) := by simp
    clear hB hc
    go_enter Try.func7, Try.ntmps7
    go_wp2
    go_ret
    exact ⟨⟨x % n, hm, by rw [e1]; rfl⟩, rfl⟩
  · clear hB
    have hm : i % n < n := Nat.mod_lt _ (by omega)
    have e1 : ((i % n : Nat) : Int) = (i : Int) % (n : Int) := by simp
    go_enter Try.func7, Try.ntmps7
    go_wp2
    go_ret
    exact ⟨⟨i % n, hm, by rw [e1]; rfl⟩, rfl⟩
end Go.Proofs.Ytafamfjgehnddaa

namespace Go.Proofs.Ytafamfjgehnddaa
open Go.RowKit

theorem Sep.nought (R : Res) : Sep Nought R = R := by
  funext w G
  apply propext
  constructor
  · rintro ⟨G1, G2, a, b, _, d⟩
    have e : G = G2 := funext fun x => propext ⟨fun h => ((d x).1 h).elim (fun q => absurd q (a x)) id, fun h => (d x).2 (.inr h)⟩
    rw [e]; exact b
  · intro h
    exact ⟨fun _ => False, G, fun _ h => h, h, fun _ h => h.elim, fun x => ⟨.inr, fun q => q.elim (fun q => q.elim) id⟩⟩
theorem Sep.nought' (R : Res) : Sep R Nought = R := (Sep.comm' _ _).trans (Sep.nought R)

/-- The things of all numbers below n. -/
def Many (f : Nat → Res) : Nat → Res
  | 0 => Nought
  | n + 1 => Sep (f n) (Many f n)
/-- One is turned. -/
def upd {α : Type} (f : Nat → α) (t : Nat) (x : α) : Nat → α := fun j => if j = t then x else f j
theorem upd_at {α : Type} (f : Nat → α) (t : Nat) (x : α) : upd f t x t = x := if_pos rfl
theorem upd_ne {α : Type} (f : Nat → α) {t j : Nat} (x : α) (h : j ≠ t) : upd f t x j = f j := if_neg h
theorem upd_upd {α : Type} (f : Nat → α) (t : Nat) (x y : α) : upd (upd f t x) t y = upd f t y := by
  funext j; unfold upd; split <;> rfl
theorem upd_id {α : Type} (f : Nat → α) (t : Nat) : upd f t (f t) = f := by
  funext j; unfold upd; split
  · rename_i h; rw [h]
  · rfl
theorem Loc.many {f : Nat → Res} (h : ∀ j, Loc (f j)) : ∀ n, Loc (Many f n)
  | 0 => Loc.nought
  | n + 1 => (h n).sep (Loc.many h n)
theorem Many.congr {f g : Nat → Res} : ∀ n, (∀ j, j < n → f j = g j) → Many f n = Many g n
  | 0, _ => rfl
  | n + 1, h => by
    show Sep (f n) (Many f n) = Sep (g n) (Many g n)
    rw [h n (by omega), Many.congr n (fun j hj => h j (by omega))]
theorem Many.at (f : Nat → Res) (t : Nat) : ∀ n, t < n → Many f n = Sep (f t) (Many (upd f t Nought) n)
  | n + 1, h => by
    show Sep (f n) (Many f n) = Sep (f t) (Sep (upd f t Nought n) (Many (upd f t Nought) n))
    by_cases e : t = n
    · subst e
      rw [upd_at, Sep.nought]
      exact congrArg (Sep (f t)) (Many.congr t (fun j hj => (upd_ne f Nought (show j ≠ t by omega)).symm))
    · rw [upd_ne f Nought (fun q => e q.symm), Many.at f t n (by omega)]
      ac_rfl
theorem Many.put (f : Nat → Res) (t : Nat) (r : Res) (n : Nat) (h : t < n) : Many (upd f t r) n = Sep r (Many (upd f t Nought) n) := by
  rw [Many.at (upd f t r) t n h, upd_at, upd_upd]
/-- The one of number t comes forth. -/
theorem Many.out (f : Nat → Res) (t : Nat) (n : Nat) (h : t < n) (R : Res) : Sep (Many f n) R = Sep (f t) (Sep (Many (upd f t Nought) n) R) := by
  rw [Many.at f t n h]; ac_rfl
theorem Many.back (f : Nat → Res) (t : Nat) (r : Res) (n : Nat) (h : t < n) (R : Res) : Sep r (Sep (Many (upd f t Nought) n) R) = Sep (Many (upd f t r) n) R := by
  rw [Many.put f t r n h]; ac_rfl
theorem Loc.rest {f : Nat → Res} (h : ∀ j, Loc (f j)) (t n : Nat) : Loc (Many (upd f t Nought) n) :=
  Loc.many (fun j => by unfold upd; split; exact Loc.nought; exact h j) n
theorem Many.none : ∀ n, Many (fun _ => Nought) n = Nought
  | 0 => rfl
  | n + 1 => by show Sep Nought (Many _ n) = Nought; rw [Sep.nought, Many.none n]

/-- The cells g 0 .. g (n - 1). -/
def rowN (n : Nat) (g : Nat → Value) : Array Value := ((List.range n).map g).toArray
theorem rowN_get {n t : Nat} (g : Nat → Value) (h : t < n) : (rowN n g)[t]? = some (g t) := by
  simp [rowN, h]
theorem rowN_set (n t : Nat) (g : Nat → Value) (v : Value) : (rowN n g).setIfInBounds t v = rowN n (upd g t v) := by
  apply Array.ext_getElem?
  intro j
  rw [Array.getElem?_setIfInBounds]
  simp only [rowN, List.size_toArray, List.length_map, List.length_range, List.getElem?_toArray, List.getElem?_map]
  by_cases e : t = j
  · subst e
    by_cases h : t < n <;> simp [h, upd_at]
  · rw [if_neg e]
    by_cases h : j < n
    · simp [h, upd_ne g v (fun q => e q.symm)]
    · rw [List.getElem?_eq_none (by simp; omega)]; rfl
theorem rowN_const (n : Nat) (v : Value) : rowN n (fun _ => v) = Array.replicate n v := by
  apply Array.ext_getElem?
  intro j
  simp only [rowN, List.getElem?_toArray, List.getElem?_map, Array.getElem?_replicate]
  by_cases h : j < n <;> simp [h]
theorem rowN_congr {n : Nat} {g g' : Nat → Value} (h : ∀ j, j < n → g j = g' j) : rowN n g = rowN n g' := by
  unfold rowN
  congr 1
  apply List.map_congr_left
  intro j hj
  exact h j (List.mem_range.1 hj)
end Go.Proofs.Ytafamfjgehnddaa

namespace Go.Proofs.Ytafamfjgehnddaa
open Go.RowKit

theorem made_one {z : Value} (h : z.cells = #[z]) (n : Nat) : (madeCells z.cells (n * 1)).toList = (rowN n (fun _ => z)).toList := by
  rw [h, rowN_const]
  simp only [madeCells, Nat.mul_one, Array.toList_map, Array.toList_range, Array.toList_replicate]
  rw [List.eq_replicate_iff]
  refine ⟨by simp, ?_⟩
  intro b hb
  obtain ⟨j, _, rfl⟩ := List.mem_map.1 hb
  simp [Nat.mod_one]
theorem Own.rowMade {R : Res} {w0 w w1 : World} (lR : Loc R) (h : Own R w0 w) {z : Value} (hz : z.cells = #[z]) {e : TypeId} {n : Nat} (hown : w1.ownsRow w.heap.size e 1 (.slice (some ⟨w.heap.size, 0, none⟩) n n) n (madeCells z.cells (n * 1)).toList) (hgrow : w.grownBy w1 none) :
    Own (Sep (BO w.heap.size (.cells (rowN n (fun _ => z)) e (0, 0))) R) w0 w1 := by
  rw [made_one hz] at hown
  have hr := owned_row hown
  rw [Array.toArray_toList] at hr
  exact Own.boNew lR h hr (Nat.le_refl _) ((Below.refl _ w).grown hgrow (Nat.le_refl _) (by simp))
end Go.Proofs.Ytafamfjgehnddaa

namespace Go.Proofs.Ytafamfjgehnddaa
open Go Go.RowKit

theorem made_all {z c : Value} {k : Nat} (h : z.cells = Array.replicate k c) (hk : 0 < k) (n : Nat) : (madeCells z.cells (n * k)).toList = (rowN (n * k) (fun _ => c)).toList := by
  rw [h, rowN_const]
  simp only [madeCells, Array.toList_map, Array.toList_range, Array.toList_replicate, Array.size_replicate]
  rw [List.eq_replicate_iff]
  refine ⟨by simp, ?_⟩
  intro b hb
  obtain ⟨j, _, rfl⟩ := List.mem_map.1 hb
  have : j % k < k := Nat.mod_lt _ hk
  simp [this]
theorem owned_rowN {w : World} {base g n k : Nat} {e : TypeId} {xs : List Value} (h : w.ownsRow base e k (.slice (some ⟨g, 0, none⟩) n n) n xs) : w.heap[g]? = some (.cells xs.toArray e (0, 0)) := by
  obtain ⟨hl, h | ⟨g', cap, cur, hv, hb, hh, h1, h2, h3, h4⟩⟩ := h
  · cases h.1
  · cases hv
    rw [hh]
    have : cur.toList = xs := by rw [← h4, List.take_of_length_le (by simp; omega)]
    rw [← this]
theorem Own.rowMadeN {R : Res} {w0 w w1 : World} (lR : Loc R) (h : Own R w0 w) {z c : Value} {k : Nat} (hz : z.cells = Array.replicate k c) (hk : 0 < k) {e : TypeId} {n : Nat} (hown : w1.ownsRow w.heap.size e k (.slice (some ⟨w.heap.size, 0, none⟩) n n) n (madeCells z.cells (n * k)).toList) (hgrow : w.grownBy w1 none) :
    Own (Sep (BO w.heap.size (.cells (rowN (n * k) (fun _ => c)) e (0, 0))) R) w0 w1 := by
  rw [made_all hz hk] at hown
  have hr := owned_rowN hown
  rw [Array.toArray_toList] at hr
  exact Own.boNew lR h hr (Nat.le_refl _) ((Below.refl _ w).grown hgrow (Nat.le_refl _) (by simp))

section
variable {P : Program} {ops : Array Oper} {Q : Exit → Act → World → Prop} {md : Region.Mode}
/-- An operation that makes such a row, beside what there is. -/
theorem makeN {R : Res} {w0 : World} (w : World) {o : Oper} {a : Act} {K : Act → World → Prop} (lR : Loc R) (h : Own R w0 w)
    (l c : Operand) (t : TypeId) (hop : o.op = Op.makeSlice t l c) (e : TypeId) (i : TypeInfo) (z : Value) (k : Nat) (h1 : P.underlying t = some (.slice e)) (h2 : P.info? e = some i) (h3 : i.zero = some z) (h4 : i.size = k)
    (n : Nat) (hl : a.eval l = .int .i64 (n : Int)) (hc : a.eval c = .int .i64 (n : Int)) (b2 : i.bytes * n ≤ 281474976710656) (b3 : n ≤ maxLen) (cv : Value) (hz : z.cells = Array.replicate k cv) (hk : 0 < k)
    (hK : ∀ (g : Nat) w', Own (Sep (BO g (.cells (rowN (n * k) (fun _ => cv)) e (0, 0))) R) w0 w' → K (a.put o.dst (.slice (some ⟨g, 0, none⟩) n n)) w') :
    Oper.wp P o a w K Q := by
  obtain ⟨w', hrun, r1, r2⟩ := run_make_full (P := P) w w.heap.size t e i z k h1 h2 h3 h4 .i64 .i64 n b2 b3 (Nat.le_refl _)
  unfold Oper.wp
  simp [execOp, hop, hl, hc, hrun, Result.andThen]
  exact hK _ _ (Own.rowMadeN lR h hz hk r1 r2)
/-- Any number of operations that write are ready: each may come first. -/
theorem wpAnyJ_all {J : World → Prop} {is : List Nat} {fuel : Nat} {listed : Array Bool} {a : Act} {w : World} (hne : is ≠ []) (hr : Region.ready md ops listed = is)
    (h : ∀ i ∈ is, wpOp P ops Q i (fun a' w' => J w' ∧ wpAnyJ P md ops Q J fuel (listed.setIfInBounds i true) a' w') a w) :
    wpAnyJ P md ops Q J (fuel + 1) listed a w := by
  refine ⟨fun h0 => (by rw [hr] at h0; exact absurd h0 hne), fun k hk => ?_⟩
  rw [hr] at hk
  exact h k hk
end
end Go.Proofs.Ytafamfjgehnddaa
