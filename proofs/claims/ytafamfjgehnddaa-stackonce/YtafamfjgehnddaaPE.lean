/- The document's machine: fresh. The document's New: a machine that has not begun. made: a pop, a push, of both sides. The document's machine: fresh, idle, body, Step, of a pop and of a push. The document's machine: push, by what was told of the last attempt (printed by gen/docpush.py). A pop, a push, of both sides: the document's is where the program's is; a step of it. The words of stacks, kept by the steps of pops and pushes. A new arena's words are such as machines leave them; machines that have not begun stand alike; a log of nothing. -/
import Derived.Test.YtafamfjgehnddaaPD
import Derived.Test.YtafamfjgehnddaaPK
import Derived.Deep.WholeRow
import Derived.Deep.LoopGhost
import Derived.Test.YtafamfjgehnddaaPL
namespace Go.Proofs.Ytafamfjgehnddaa
open Go Go.RowKit

/-- What is told ahead of the first step. -/
def MV.fresh (v : MV) : MV := { v with at_ := 0, used := false, d0 := 0, d1 := 0, d2 := 0, d3 := 0, got := -1, code := 2, n := 0, gens := 0, freed := 0, live := .slice none 0 0, marks := .slice none 0 0, full := 0 }

theorem asObj {R : Res} {w0 u : World} {b : Nat} {k : MK} {v : MV} (c : Array Value) (e : c = mCells k v) (h : Own (Sep (BO b (.cells c 71 (0, 0))) R) w0 u) : Own (Sep (BO b (mObj k v)) R) w0 u := by subst e; exact h

section
variable {R : Res} {w0 w : World} {b : Nat} {k : MK} {v : MV}
set_option maxRecDepth 100000 in
set_option maxHeartbeats 400000 in
theorem m_fresh (lR : Loc R) (h : Own (Sep (BO b (mObj k v)) R) w0 w) :
    Calls Try.prog 88 #[.pointer (some ⟨b, 0, none⟩)] w fun e w' => e = .returned (.tuple #[]) ∧ Own (Sep (BO b (mObj k v.fresh)) R) w0 w' := by
  have hb := Own.boAt h
  have c16 : w.cell? ⟨b, 16, none⟩ = some (.int .i64 (v.at_ : Int)) := cell_of_heap hb
  have c17 : w.cell? ⟨b, 17, none⟩ = some (.bool v.used) := cell_of_heap hb
  have c19 : w.cell? ⟨b, 19, none⟩ = some (.int .i64 v.d0) := cell_of_heap hb
  have c20 : w.cell? ⟨b, 20, none⟩ = some (.int .i64 v.d1) := cell_of_heap hb
  have c21 : w.cell? ⟨b, 21, none⟩ = some (.int .u64 (v.d2 : Int)) := cell_of_heap hb
  have c22 : w.cell? ⟨b, 22, none⟩ = some (.int .u64 (v.d3 : Int)) := cell_of_heap hb
  have c23 : w.cell? ⟨b, 23, none⟩ = some (.int .i64 v.got) := cell_of_heap hb
  have c24 : w.cell? ⟨b, 24, none⟩ = some (.int .i64 v.code) := cell_of_heap hb
  have c25 : w.cell? ⟨b, 25, none⟩ = some (.int .i64 v.n) := cell_of_heap hb
  have c26 : w.cell? ⟨b, 26, none⟩ = some (.int .i64 v.gens) := cell_of_heap hb
  have c27 : w.cell? ⟨b, 27, none⟩ = some (.int .u64 (v.freed : Int)) := cell_of_heap hb
  have c28 : w.cell? ⟨b, 28, none⟩ = some v.live := cell_of_heap hb
  have c29 : w.cell? ⟨b, 29, none⟩ = some v.marks := cell_of_heap hb
  have c30 : w.cell? ⟨b, 30, none⟩ = some (.int .i64 v.full) := cell_of_heap hb
  have fb : ∀ o, w.frozen? ⟨b, o, none⟩ = false := fun o => frozen_of_heap hb
  have B := fun (c : Array Value) (u : World) (q : Nat) (x : Value) (hh : Own (Sep (BO b (.cells c 71 (0, 0))) R) w0 u) => Own.boSet lR hh q x
  have HE := hide (B _ _ 24 (.int .i64 2) (B _ _ 30 (.int .i64 0) (B _ _ 29 (.slice none 0 0) (B _ _ 28 (.slice none 0 0) (B _ _ 27 (.int .u64 0) (B _ _ 26 (.int .i64 0) (B _ _ 25 (.int .i64 0) (B _ _ 23 (.int .i64 (-1)) (B _ _ 22 (.int .u64 0) (B _ _ 21 (.int .u64 0) (B _ _ 20 (.int .i64 0) (B _ _ 19 (.int .i64 0) (B _ _ 17 (.bool false) (B _ _ 16 (.int .i64 0) h))))))))))))))
  clear h hb B
  go_enter Try.func88, Try.ntmps88
  go_wp2
  go_end0
  exact ⟨rfl, asObj _ (by kernel_rfl) HE.out⟩
end
end Go.Proofs.Ytafamfjgehnddaa

namespace Go.Proofs.Ytafamfjgehnddaa
open Go Go.RowKit

section
variable {R : Res} {w0 w : World} {k : MK} {v : MV}
set_option maxRecDepth 100000 in
set_option maxHeartbeats 1000000 in
theorem m_new (lR : Loc R) (h : Own R w0 w) :
    Calls Try.prog 64 #[.agg (mCells k v)] w fun e w' => ∃ b, e = .returned (.pointer (some ⟨b, 0, none⟩)) ∧ Own (Sep (BO b (mObj k v.fresh)) R) w0 w' := by
  have O1 : Hid (Own (Sep (BO w.heap.size (mObj k v)) R) w0 (w.alloc (mObj k v))) := hide (Own.boNew lR h (heap_alloc_at w _) (Nat.le_refl _) (grown1 w _))
  clear h
  go_enter Try.func64, Try.ntmps64
  go_wp2_with fail
  refine (m_fresh lR O1.out).mono ?_
  rintro e w1 ⟨rfl, o1⟩
  have O2 := hide o1
  clear O1 o1
  go_wp2
  go_ret
  exact ⟨_, rfl, O2.out⟩
end
end Go.Proofs.Ytafamfjgehnddaa

namespace Go.Proofs.Ytafamfjgehnddaa
open Go Go.RowKit

theorem buildM (P T a p : Int) (u : World) : (Instr.build 71 #[(0, .int .i64 1), (1, .agg #[.int .i64 P, .int .i64 T]), (7, .int .i64 a), (3, .int .i64 p)]).run Try.prog u = .ok (.agg #[.int .i64 1, .int .i64 P, .int .i64 T, .int .i64 0, .int .i64 p, .int .i64 0, .int .i64 0, .int .i64 0, .int .i64 a, .int .i64 0, .int .i64 0, .int .u64 0, .bool false, .slice none 0 0, .slice none 0 0, .bool false, .int .i64 0, .bool false, .pointer none, .int .i64 0, .int .i64 0, .int .u64 0, .int .u64 0, .int .i64 0, .int .i64 0, .int .i64 0, .int .i64 0, .int .u64 0, .slice none 0 0, .slice none 0 0, .int .i64 0, .int .i64 0]) u := run_build u _ _ _ (by kernel_rfl)

theorem size_alloc (w : World) (o : Obj) : (w.alloc o).heap.size = w.heap.size + 1 := by simp only [World.alloc, Array.size_push]

section
variable {R : Res} {w0 w : World}
/-- Four blocks more. -/
theorem fourNew (lR : Loc R) (h : Own R w0 w) (c1 c2 c3 c4 : Array Value) (t1 t2 t3 t4 : TypeId) :
    Own (Sep (BO (w.heap.size + 1 + 1 + 1) (.cells c4 t4 (0, 0))) (Sep (BO (w.heap.size + 1 + 1) (.cells c3 t3 (0, 0))) (Sep (BO (w.heap.size + 1) (.cells c2 t2 (0, 0))) (Sep (BO w.heap.size (.cells c1 t1 (0, 0))) R)))) w0 ((((w.alloc (.cells c1 t1)).alloc (.cells c2 t2)).alloc (.cells c3 t3)).alloc (.cells c4 t4)) := by
  have one : ∀ {R : Res} {u : World} (_ : Loc R) (_ : Own R w0 u) (n : Nat) (_ : u.heap.size = n) (c : Array Value) (t : TypeId), Own (Sep (BO n (.cells c t (0, 0))) R) w0 (u.alloc (.cells c t)) := fun l hu n hn c t => by
    subst hn
    exact Own.boNew l hu (heap_alloc_at _ _) (Nat.le_refl _) (grown1 _ _)
  exact one (Loc.bo.sep (Loc.bo.sep (Loc.bo.sep lR))) (one (Loc.bo.sep (Loc.bo.sep lR)) (one (Loc.bo.sep lR) (one lR h _ rfl c1 t1) _ (size_alloc _ _) c2 t2) _ (by rw [size_alloc, size_alloc]) c3 t3) _ (by rw [size_alloc, size_alloc, size_alloc]) c4 t4

/-- What a pop's machine is made of, and holds at first. -/
def kPop (P T a p : Int) : MK := ⟨1, P, T, 0, p, 0, 0, 0, a, 0, 0, 0, false, .slice none 0 0⟩
def kPush (P T a p : Int) : MK := ⟨2, P, T, 0, p, 0, 0, 0, a, 0, 0, 0, false, .slice none 0 0⟩
def vZero : MV := ⟨.slice none 0 0, false, 0, false, .pointer none, 0, 0, 0, 0, 0, 0, 0, 0, 0, .slice none 0 0, .slice none 0 0, 0, 0⟩

set_option maxRecDepth 100000 in
set_option maxHeartbeats 1000000 in
theorem madePop (lR : Loc R) (P T a p : Int) (ha : Lay.isHead P T a = true) (h : Own R w0 w) :
    Calls Try.prog 34 #[.agg #[.int .i64 P, .int .i64 T], .bool false, .int .i64 a, .int .i64 p] w fun e w' => ∃ m b, e = .returned (.tuple #[.agg #[.pointer (some ⟨m, 0, none⟩), .pointer none, .pointer (some ⟨b, 0, none⟩)], .bool true]) ∧ Own (Sep (BO m (popO P T a 0 0 0 0)) (Sep (BO b (mObj (kPop P T a p) vZero.fresh)) R)) w0 w' := by
  have bf := buildM P T a p
  have hz : (((w.alloc (.cells #[.int .i64 P, .int .i64 T] 26)).alloc (.cells #[.pointer none, .pointer none, .pointer none] 47)).alloc (.cells #[.pointer none, .pointer none, .pointer none] 47)).heap.size = w.heap.size + 1 + 1 + 1 := by rw [size_alloc, size_alloc, size_alloc]
  have hgx : Hid (((((w.alloc (.cells #[.int .i64 P, .int .i64 T] 26)).alloc (.cells #[.pointer none, .pointer none, .pointer none] 47)).alloc (.cells #[.pointer none, .pointer none, .pointer none] 47)).alloc (.cells #[.int .i64 0, .int .i64 0, .int .i64 0, .int .i64 0, .int .i64 0, .int .i64 0, .int .i64 0, .int .i64 0, .int .i64 0, .int .i64 0, .int .i64 0, .int .u64 0, .bool false, .slice none 0 0, .slice none 0 0, .bool false, .int .i64 0, .bool false, .pointer none, .int .i64 0, .int .i64 0, .int .u64 0, .int .u64 0, .int .i64 0, .int .i64 0, .int .i64 0, .int .i64 0, .int .u64 0, .slice none 0 0, .slice none 0 0, .int .i64 0, .int .i64 0] 71)).heap[w.heap.size + 1 + 1 + 1]? = some (.cells #[.int .i64 0, .int .i64 0, .int .i64 0, .int .i64 0, .int .i64 0, .int .i64 0, .int .i64 0, .int .i64 0, .int .i64 0, .int .i64 0, .int .i64 0, .int .u64 0, .bool false, .slice none 0 0, .slice none 0 0, .bool false, .int .i64 0, .bool false, .pointer none, .int .i64 0, .int .i64 0, .int .u64 0, .int .u64 0, .int .i64 0, .int .i64 0, .int .i64 0, .int .i64 0, .int .u64 0, .slice none 0 0, .slice none 0 0, .int .i64 0, .int .i64 0] 71 (0, 0))) := hide (by rw [← hz]; exact heap_alloc_last _ _)
  have hse : Hid (((((w.alloc (.cells #[.int .i64 P, .int .i64 T] 26)).alloc (.cells #[.pointer none, .pointer none, .pointer none] 47)).alloc (.cells #[.pointer none, .pointer none, .pointer none] 47)).alloc (.cells #[.int .i64 0, .int .i64 0, .int .i64 0, .int .i64 0, .int .i64 0, .int .i64 0, .int .i64 0, .int .i64 0, .int .i64 0, .int .i64 0, .int .i64 0, .int .u64 0, .bool false, .slice none 0 0, .slice none 0 0, .bool false, .int .i64 0, .bool false, .pointer none, .int .i64 0, .int .i64 0, .int .u64 0, .int .u64 0, .int .i64 0, .int .i64 0, .int .i64 0, .int .i64 0, .int .u64 0, .slice none 0 0, .slice none 0 0, .int .i64 0, .int .i64 0] 71)).setRow (w.heap.size + 1 + 1 + 1) #[.int .i64 1, .int .i64 P, .int .i64 T, .int .i64 0, .int .i64 p, .int .i64 0, .int .i64 0, .int .i64 0, .int .i64 a, .int .i64 0, .int .i64 0, .int .u64 0, .bool false, .slice none 0 0, .slice none 0 0, .bool false, .int .i64 0, .bool false, .pointer none, .int .i64 0, .int .i64 0, .int .u64 0, .int .u64 0, .int .i64 0, .int .i64 0, .int .i64 0, .int .i64 0, .int .u64 0, .slice none 0 0, .slice none 0 0, .int .i64 0, .int .i64 0] = (((w.alloc (.cells #[.int .i64 P, .int .i64 T] 26)).alloc (.cells #[.pointer none, .pointer none, .pointer none] 47)).alloc (.cells #[.pointer none, .pointer none, .pointer none] 47)).alloc (.cells #[.int .i64 1, .int .i64 P, .int .i64 T, .int .i64 0, .int .i64 p, .int .i64 0, .int .i64 0, .int .i64 0, .int .i64 a, .int .i64 0, .int .i64 0, .int .u64 0, .bool false, .slice none 0 0, .slice none 0 0, .bool false, .int .i64 0, .bool false, .pointer none, .int .i64 0, .int .i64 0, .int .u64 0, .int .u64 0, .int .i64 0, .int .i64 0, .int .i64 0, .int .i64 0, .int .u64 0, .slice none 0 0, .slice none 0 0, .int .i64 0, .int .i64 0] 71)) := hide (by rw [← hz]; exact World.setRow_alloc_new _ _ _ _)
  have O1 := hide (fourNew lR h #[.int .i64 P, .int .i64 T] #[.pointer none, .pointer none, .pointer none] #[.pointer none, .pointer none, .pointer none] #[.int .i64 1, .int .i64 P, .int .i64 T, .int .i64 0, .int .i64 p, .int .i64 0, .int .i64 0, .int .i64 0, .int .i64 a, .int .i64 0, .int .i64 0, .int .u64 0, .bool false, .slice none 0 0, .slice none 0 0, .bool false, .int .i64 0, .bool false, .pointer none, .int .i64 0, .int .i64 0, .int .u64 0, .int .u64 0, .int .i64 0, .int .i64 0, .int .i64 0, .int .i64 0, .int .u64 0, .slice none 0 0, .slice none 0 0, .int .i64 0, .int .i64 0] 26 47 47 71)
  have NP := hide (fun w => newPopYes P T a ha w)
  have lRR := hide lR
  have lR := hide lR
  clear h hz ha
  go_enter Try.func34, Try.ntmps34
  go_wp2_with (first
    | fail
    | (refine wpList_store_row rfl 71 _ _ rfl _ _ rfl rfl _ _ hgx.out (by kernel_rfl) rfl (by kernel_rfl) ?_
       rw [hse.out]
       generalize (((w.alloc (.cells #[.int .i64 P, .int .i64 T] 26)).alloc (.cells #[.pointer none, .pointer none, .pointer none] 47)).alloc (.cells #[.pointer none, .pointer none, .pointer none] 47)).alloc (.cells #[.int .i64 1, .int .i64 P, .int .i64 T, .int .i64 0, .int .i64 p, .int .i64 0, .int .i64 0, .int .i64 0, .int .i64 a, .int .i64 0, .int .i64 0, .int .u64 0, .bool false, .slice none 0 0, .slice none 0 0, .bool false, .int .i64 0, .bool false, .pointer none, .int .i64 0, .int .i64 0, .int .u64 0, .int .u64 0, .int .i64 0, .int .i64 0, .int .i64 0, .int .i64 0, .int .u64 0, .slice none 0 0, .slice none 0 0, .int .i64 0, .int .i64 0] 71) = u1 at *
       generalize w.heap.size = b1 at *
       clear hgx hse
       have lay0 : u1.cell? ⟨b1, 0, none⟩ = some (.int .i64 P) := cell_of_heap (O1.out.has (R := Sep (BO (b1 + 1) (.cells #[.pointer none, .pointer none, .pointer none] 47 (0, 0))) (Sep (BO (b1 + 1 + 1) (.cells #[.pointer none, .pointer none, .pointer none] 47 (0, 0))) (Sep (BO (b1 + 1 + 1 + 1) (.cells #[.int .i64 1, .int .i64 P, .int .i64 T, .int .i64 0, .int .i64 p, .int .i64 0, .int .i64 0, .int .i64 0, .int .i64 a, .int .i64 0, .int .i64 0, .int .u64 0, .bool false, .slice none 0 0, .slice none 0 0, .bool false, .int .i64 0, .bool false, .pointer none, .int .i64 0, .int .i64 0, .int .u64 0, .int .u64 0, .int .i64 0, .int .i64 0, .int .i64 0, .int .i64 0, .int .u64 0, .slice none 0 0, .slice none 0 0, .int .i64 0, .int .i64 0] 71 (0, 0))) R))) (by ac_rfl))
       have lay1 : u1.cell? ⟨b1, 1, none⟩ = some (.int .i64 T) := cell_of_heap (O1.out.has (R := Sep (BO (b1 + 1) (.cells #[.pointer none, .pointer none, .pointer none] 47 (0, 0))) (Sep (BO (b1 + 1 + 1) (.cells #[.pointer none, .pointer none, .pointer none] 47 (0, 0))) (Sep (BO (b1 + 1 + 1 + 1) (.cells #[.int .i64 1, .int .i64 P, .int .i64 T, .int .i64 0, .int .i64 p, .int .i64 0, .int .i64 0, .int .i64 0, .int .i64 a, .int .i64 0, .int .i64 0, .int .u64 0, .bool false, .slice none 0 0, .slice none 0 0, .bool false, .int .i64 0, .bool false, .pointer none, .int .i64 0, .int .i64 0, .int .u64 0, .int .u64 0, .int .i64 0, .int .i64 0, .int .i64 0, .int .i64 0, .int .u64 0, .slice none 0 0, .slice none 0 0, .int .i64 0, .int .i64 0] 71 (0, 0))) R))) (by ac_rfl))))
  refine (NP.out u1).mono ?_
  rintro e u2 ⟨m, rfl, hm1, hm2, hm3⟩
  have lR := lR.out
  have o2 := Own.boNew (Loc.bo.sep (Loc.bo.sep (Loc.bo.sep (Loc.bo.sep lR)))) O1.out hm1 hm2 hm3
  have o2' : Own (Sep (BO (b1 + 1 + 1) (.cells #[.pointer none, .pointer none, .pointer none] 47 (0, 0))) (Sep (BO (b1 + 1 + 1 + 1) (.cells #[.int .i64 1, .int .i64 P, .int .i64 T, .int .i64 0, .int .i64 p, .int .i64 0, .int .i64 0, .int .i64 0, .int .i64 a, .int .i64 0, .int .i64 0, .int .u64 0, .bool false, .slice none 0 0, .slice none 0 0, .bool false, .int .i64 0, .bool false, .pointer none, .int .i64 0, .int .i64 0, .int .u64 0, .int .u64 0, .int .i64 0, .int .i64 0, .int .i64 0, .int .i64 0, .int .u64 0, .slice none 0 0, .slice none 0 0, .int .i64 0, .int .i64 0] 71 (0, 0))) (Sep (BO (b1 + 1) (.cells #[.pointer none, .pointer none, .pointer none] 47 (0, 0))) (Sep (BO b1 (.cells #[.int .i64 P, .int .i64 T] 26 (0, 0))) (Sep (BO m (popO P T a 0 0 0 0)) R))))) w0 u2 := o2.cast (by ac_rfl)
  have lr1 : Loc (Sep (BO (b1 + 1 + 1 + 1) (.cells #[.int .i64 1, .int .i64 P, .int .i64 T, .int .i64 0, .int .i64 p, .int .i64 0, .int .i64 0, .int .i64 0, .int .i64 a, .int .i64 0, .int .i64 0, .int .u64 0, .bool false, .slice none 0 0, .slice none 0 0, .bool false, .int .i64 0, .bool false, .pointer none, .int .i64 0, .int .i64 0, .int .u64 0, .int .u64 0, .int .i64 0, .int .i64 0, .int .i64 0, .int .i64 0, .int .u64 0, .slice none 0 0, .slice none 0 0, .int .i64 0, .int .i64 0] 71 (0, 0))) (Sep (BO (b1 + 1) (.cells #[.pointer none, .pointer none, .pointer none] 47 (0, 0))) (Sep (BO b1 (.cells #[.int .i64 P, .int .i64 T] 26 (0, 0))) (Sep (BO m (popO P T a 0 0 0 0)) R)))) := Loc.bo.sep (Loc.bo.sep (Loc.bo.sep (Loc.bo.sep lR)))
  have fm : ∀ o, u2.frozen? ⟨b1 + 1 + 1, o, none⟩ = false := fun o => frozen_of_heap (Own.boAt o2')
  have cm0 : u2.cell? ⟨b1 + 1 + 1, 0, none⟩ = some (.pointer none) := cell_of_heap (Own.boAt o2')
  have o3 := Own.boSet lr1 o2' 0 (.pointer (some ⟨m, 0, none⟩))
  have hM := hide (o3.has (m := b1 + 1 + 1 + 1) (R := Sep (BO (b1 + 1 + 1) _) (Sep (BO (b1 + 1) (.cells #[.pointer none, .pointer none, .pointer none] 47 (0, 0))) (Sep (BO b1 (.cells #[.int .i64 P, .int .i64 T] 26 (0, 0))) (Sep (BO m (popO P T a 0 0 0 0)) R)))) (by ac_rfl))
  have O3 := hide o3
  have LR := hide lr1
  clear o2 o2' o3 lr1 O1 NP hm1 hm2 hm3 lay0 lay1 lR
  go_wp2_with (first
    | fail
    | (refine wpList_load_row rfl 71 _ rfl _ rfl 71 #[.int .i64 1, .int .i64 P, .int .i64 T, .int .i64 0, .int .i64 p, .int .i64 0, .int .i64 0, .int .i64 0, .int .i64 a, .int .i64 0, .int .i64 0, .int .u64 0, .bool false, .slice none 0 0, .slice none 0 0, .bool false, .int .i64 0, .bool false, .pointer none, .int .i64 0, .int .i64 0, .int .u64 0, .int .u64 0, .int .i64 0, .int .i64 0, .int .i64 0, .int .i64 0, .int .u64 0, .slice none 0 0, .slice none 0 0, .int .i64 0, .int .i64 0] (0, 0) _ hM.out Try.underlying71 rfl (by kernel_rfl) ?_))
  refine (m_new (k := kPop P T a p) (v := vZero) (Loc.bo.sep LR.out) O3.out).mono ?_
  rintro e u4 ⟨b, rfl, o4⟩
  generalize hR : Sep (BO (b1 + 1 + 1 + 1) _) _ = R1 at *
  have l4 : Loc (Sep (BO b (mObj (kPop P T a p) vZero.fresh)) R1) := Loc.bo.sep LR.out
  have o5 : Own (Sep (BO (b1 + 1 + 1) (.cells #[.pointer (some ⟨m, 0, none⟩), .pointer none, .pointer none] 47 (0, 0))) (Sep (BO b (mObj (kPop P T a p) vZero.fresh)) R1)) w0 u4 := o4.cast (by ac_rfl)
  have fm : ∀ o, u4.frozen? ⟨b1 + 1 + 1, o, none⟩ = false := fun o => frozen_of_heap (Own.boAt o5)
  have cm2 : u4.cell? ⟨b1 + 1 + 1, 2, none⟩ = some (.pointer none) := cell_of_heap (Own.boAt o5)
  have O6 := hide (Own.boSet l4 o5 2 (.pointer (some ⟨b, 0, none⟩)))
  have L4 := hide l4
  clear o4 o5 l4 O3 hM
  go_upto_region 8 with fail
  generalize u4.setCell ⟨b1 + 1 + 1, 2, none⟩ (.pointer (some ⟨b, 0, none⟩)) = u5 at *
  clear fm cm2 LR L4
  subst hR
  have o7 : Own (Sep (BO (b1 + 1) (.cells #[.pointer none, .pointer none, .pointer none] 47 (0, 0))) (Sep (BO (b1 + 1 + 1) (.cells #[.pointer (some ⟨m, 0, none⟩), .pointer none, .pointer (some ⟨b, 0, none⟩)] 47 (0, 0))) (Sep (BO b (mObj (kPop P T a p) vZero.fresh)) (Sep (BO (b1 + 1 + 1 + 1) (.cells #[.int .i64 1, .int .i64 P, .int .i64 T, .int .i64 0, .int .i64 p, .int .i64 0, .int .i64 0, .int .i64 0, .int .i64 a, .int .i64 0, .int .i64 0, .int .u64 0, .bool false, .slice none 0 0, .slice none 0 0, .bool false, .int .i64 0, .bool false, .pointer none, .int .i64 0, .int .i64 0, .int .u64 0, .int .u64 0, .int .i64 0, .int .i64 0, .int .i64 0, .int .i64 0, .int .u64 0, .slice none 0 0, .slice none 0 0, .int .i64 0, .int .i64 0] 71 (0, 0))) (Sep (BO b1 (.cells #[.int .i64 P, .int .i64 T] 26 (0, 0))) (Sep (BO m (popO P T a 0 0 0 0)) R)))))) w0 u5 := O6.out.cast (by ac_rfl)
  have l7 : Loc (Sep (BO (b1 + 1 + 1) (.cells #[.pointer (some ⟨m, 0, none⟩), .pointer none, .pointer (some ⟨b, 0, none⟩)] 47 (0, 0))) (Sep (BO b (mObj (kPop P T a p) vZero.fresh)) (Sep (BO (b1 + 1 + 1 + 1) (.cells #[.int .i64 1, .int .i64 P, .int .i64 T, .int .i64 0, .int .i64 p, .int .i64 0, .int .i64 0, .int .i64 0, .int .i64 a, .int .i64 0, .int .i64 0, .int .u64 0, .bool false, .slice none 0 0, .slice none 0 0, .bool false, .int .i64 0, .bool false, .pointer none, .int .i64 0, .int .i64 0, .int .u64 0, .int .u64 0, .int .i64 0, .int .i64 0, .int .i64 0, .int .i64 0, .int .u64 0, .slice none 0 0, .slice none 0 0, .int .i64 0, .int .i64 0] 71 (0, 0))) (Sep (BO b1 (.cells #[.int .i64 P, .int .i64 T] 26 (0, 0))) (Sep (BO m (popO P T a 0 0 0 0)) R))))) := Loc.bo.sep (Loc.bo.sep (Loc.bo.sep (Loc.bo.sep (Loc.bo.sep lRR.out))))
  have r0 : u5.cell? ⟨b1 + 1, 0, none⟩ = some (.pointer none) := cell_of_heap (Own.boAt o7)
  have r1 : u5.cell? ⟨b1 + 1, 1, none⟩ = some (.pointer none) := cell_of_heap (Own.boAt o7)
  have r2 : u5.cell? ⟨b1 + 1, 2, none⟩ = some (.pointer none) := cell_of_heap (Own.boAt o7)
  have fr : ∀ o, u5.frozen? ⟨b1 + 1, o, none⟩ = false := fun o => frozen_of_heap (Own.boAt o7)
  have hq := o7.has (R := Sep (BO (b1 + 1) (.cells #[.pointer none, .pointer none, .pointer none] 47 (0, 0))) (Sep (BO b (mObj (kPop P T a p) vZero.fresh)) (Sep (BO (b1 + 1 + 1 + 1) (.cells #[.int .i64 1, .int .i64 P, .int .i64 T, .int .i64 0, .int .i64 p, .int .i64 0, .int .i64 0, .int .i64 0, .int .i64 a, .int .i64 0, .int .i64 0, .int .u64 0, .bool false, .slice none 0 0, .slice none 0 0, .bool false, .int .i64 0, .bool false, .pointer none, .int .i64 0, .int .i64 0, .int .u64 0, .int .u64 0, .int .i64 0, .int .i64 0, .int .i64 0, .int .i64 0, .int .u64 0, .slice none 0 0, .slice none 0 0, .int .i64 0, .int .i64 0] 71 (0, 0))) (Sep (BO b1 (.cells #[.int .i64 P, .int .i64 T] 26 (0, 0))) (Sep (BO m (popO P T a 0 0 0 0)) R))))) (m := b1 + 1 + 1) (by ac_rfl)
  have q0 : u5.cell? ⟨b1 + 1 + 1, 0, none⟩ = some (.pointer (some ⟨m, 0, none⟩)) := cell_of_heap hq
  have q1 : u5.cell? ⟨b1 + 1 + 1, 1, none⟩ = some (.pointer none) := cell_of_heap hq
  have q2 : u5.cell? ⟨b1 + 1 + 1, 2, none⟩ = some (.pointer (some ⟨b, 0, none⟩)) := cell_of_heap hq
  have O7 := hide o7
  have L7 := hide l7
  clear o7 l7 O6 hq
  have O8 := hide ((Own.boSet L7.out (Own.boSet L7.out (Own.boSet L7.out O7.out 0 (.pointer (some ⟨m, 0, none⟩))) 1 (.pointer none)) 2 (.pointer (some ⟨b, 0, none⟩))).below (Loc.bo.sep L7.out) ((Alike.drewN _ 1).below _))
  clear O7
  go_region
  have O9 : Hid (Own (Sep (BO (b1 + 1) (.cells #[.pointer (some ⟨m, 0, none⟩), .pointer none, .pointer (some ⟨b, 0, none⟩)] 47 (0, 0))) (Sep (BO (b1 + 1 + 1) (.cells #[.pointer (some ⟨m, 0, none⟩), .pointer none, .pointer (some ⟨b, 0, none⟩)] 47 (0, 0))) (Sep (BO b (mObj (kPop P T a p) vZero.fresh)) (Sep (BO (b1 + 1 + 1 + 1) _) (Sep (BO b1 _) (Sep (BO m (popO P T a 0 0 0 0)) R)))))) w0 ((((u5.setCell ⟨b1 + 1, 0, none⟩ (.pointer (some ⟨m, 0, none⟩))).setCell ⟨b1 + 1, 1, none⟩ (.pointer none)).setCell ⟨b1 + 1, 2, none⟩ (.pointer (some ⟨b, 0, none⟩))).drew)) := O8
  clear O8 r0 r1 r2 fr q0 q1 q2 L7
  generalize ((((u5.setCell ⟨b1 + 1, 0, none⟩ (.pointer (some ⟨m, 0, none⟩))).setCell ⟨b1 + 1, 1, none⟩ (.pointer none)).setCell ⟨b1 + 1, 2, none⟩ (.pointer (some ⟨b, 0, none⟩))).drew) = u6 at *
  have r0 : u6.cell? ⟨b1 + 1, 0, none⟩ = some (.pointer (some ⟨m, 0, none⟩)) := cell_of_heap (Own.boAt O9.out)
  have r1 : u6.cell? ⟨b1 + 1, 1, none⟩ = some (.pointer none) := cell_of_heap (Own.boAt O9.out)
  have r2 : u6.cell? ⟨b1 + 1, 2, none⟩ = some (.pointer (some ⟨b, 0, none⟩)) := cell_of_heap (Own.boAt O9.out)
  go_wp2
  refine bodyPost_ret (by simp [results, Try.results34, go_sem, r0, r1, r2]; try rfl) rfl ?_
  refine ⟨m, b, rfl, ?_⟩
  have o := O9.out.drop.drop
  have o' := o.cast (R' := Sep (BO (b1 + 1 + 1 + 1) _) (Sep (BO b1 _) (Sep (BO b (mObj (kPop P T a p) vZero.fresh)) (Sep (BO m (popO P T a 0 0 0 0)) R)))) (by ac_rfl)
  exact o'.drop.drop.cast (by ac_rfl)

set_option maxRecDepth 100000 in
set_option maxHeartbeats 1000000 in
theorem madePush (lR : Loc R) (P T a p : Int) (ha : Lay.isHead P T a = true) (hp : (Lay.page P T 11 p).2 = true) (h : Own R w0 w) :
    Calls Try.prog 34 #[.agg #[.int .i64 P, .int .i64 T], .bool true, .int .i64 a, .int .i64 p] w fun e w' => ∃ m b, e = .returned (.tuple #[.agg #[.pointer none, .pointer (some ⟨m, 0, none⟩), .pointer (some ⟨b, 0, none⟩)], .bool true]) ∧ Own (Sep (BO m (pushO P T a 0 0 p)) (Sep (BO b (mObj (kPush P T a p) vZero.fresh)) R)) w0 w' := by
  have bf := buildM P T a p
  have hz : (((w.alloc (.cells #[.int .i64 P, .int .i64 T] 26)).alloc (.cells #[.pointer none, .pointer none, .pointer none] 47)).alloc (.cells #[.pointer none, .pointer none, .pointer none] 47)).heap.size = w.heap.size + 1 + 1 + 1 := by rw [size_alloc, size_alloc, size_alloc]
  have hgx : Hid (((((w.alloc (.cells #[.int .i64 P, .int .i64 T] 26)).alloc (.cells #[.pointer none, .pointer none, .pointer none] 47)).alloc (.cells #[.pointer none, .pointer none, .pointer none] 47)).alloc (.cells #[.int .i64 0, .int .i64 0, .int .i64 0, .int .i64 0, .int .i64 0, .int .i64 0, .int .i64 0, .int .i64 0, .int .i64 0, .int .i64 0, .int .i64 0, .int .u64 0, .bool false, .slice none 0 0, .slice none 0 0, .bool false, .int .i64 0, .bool false, .pointer none, .int .i64 0, .int .i64 0, .int .u64 0, .int .u64 0, .int .i64 0, .int .i64 0, .int .i64 0, .int .i64 0, .int .u64 0, .slice none 0 0, .slice none 0 0, .int .i64 0, .int .i64 0] 71)).heap[w.heap.size + 1 + 1 + 1]? = some (.cells #[.int .i64 0, .int .i64 0, .int .i64 0, .int .i64 0, .int .i64 0, .int .i64 0, .int .i64 0, .int .i64 0, .int .i64 0, .int .i64 0, .int .i64 0, .int .u64 0, .bool false, .slice none 0 0, .slice none 0 0, .bool false, .int .i64 0, .bool false, .pointer none, .int .i64 0, .int .i64 0, .int .u64 0, .int .u64 0, .int .i64 0, .int .i64 0, .int .i64 0, .int .i64 0, .int .u64 0, .slice none 0 0, .slice none 0 0, .int .i64 0, .int .i64 0] 71 (0, 0))) := hide (by rw [← hz]; exact heap_alloc_last _ _)
  have hse : Hid (((((w.alloc (.cells #[.int .i64 P, .int .i64 T] 26)).alloc (.cells #[.pointer none, .pointer none, .pointer none] 47)).alloc (.cells #[.pointer none, .pointer none, .pointer none] 47)).alloc (.cells #[.int .i64 0, .int .i64 0, .int .i64 0, .int .i64 0, .int .i64 0, .int .i64 0, .int .i64 0, .int .i64 0, .int .i64 0, .int .i64 0, .int .i64 0, .int .u64 0, .bool false, .slice none 0 0, .slice none 0 0, .bool false, .int .i64 0, .bool false, .pointer none, .int .i64 0, .int .i64 0, .int .u64 0, .int .u64 0, .int .i64 0, .int .i64 0, .int .i64 0, .int .i64 0, .int .u64 0, .slice none 0 0, .slice none 0 0, .int .i64 0, .int .i64 0] 71)).setRow (w.heap.size + 1 + 1 + 1) #[.int .i64 1, .int .i64 P, .int .i64 T, .int .i64 0, .int .i64 p, .int .i64 0, .int .i64 0, .int .i64 0, .int .i64 a, .int .i64 0, .int .i64 0, .int .u64 0, .bool false, .slice none 0 0, .slice none 0 0, .bool false, .int .i64 0, .bool false, .pointer none, .int .i64 0, .int .i64 0, .int .u64 0, .int .u64 0, .int .i64 0, .int .i64 0, .int .i64 0, .int .i64 0, .int .u64 0, .slice none 0 0, .slice none 0 0, .int .i64 0, .int .i64 0] = (((w.alloc (.cells #[.int .i64 P, .int .i64 T] 26)).alloc (.cells #[.pointer none, .pointer none, .pointer none] 47)).alloc (.cells #[.pointer none, .pointer none, .pointer none] 47)).alloc (.cells #[.int .i64 1, .int .i64 P, .int .i64 T, .int .i64 0, .int .i64 p, .int .i64 0, .int .i64 0, .int .i64 0, .int .i64 a, .int .i64 0, .int .i64 0, .int .u64 0, .bool false, .slice none 0 0, .slice none 0 0, .bool false, .int .i64 0, .bool false, .pointer none, .int .i64 0, .int .i64 0, .int .u64 0, .int .u64 0, .int .i64 0, .int .i64 0, .int .i64 0, .int .i64 0, .int .u64 0, .slice none 0 0, .slice none 0 0, .int .i64 0, .int .i64 0] 71)) := hide (by rw [← hz]; exact World.setRow_alloc_new _ _ _ _)
  have O1 := hide (fourNew lR h #[.int .i64 P, .int .i64 T] #[.pointer none, .pointer none, .pointer none] #[.pointer none, .pointer none, .pointer none] #[.int .i64 1, .int .i64 P, .int .i64 T, .int .i64 0, .int .i64 p, .int .i64 0, .int .i64 0, .int .i64 0, .int .i64 a, .int .i64 0, .int .i64 0, .int .u64 0, .bool false, .slice none 0 0, .slice none 0 0, .bool false, .int .i64 0, .bool false, .pointer none, .int .i64 0, .int .i64 0, .int .u64 0, .int .u64 0, .int .i64 0, .int .i64 0, .int .i64 0, .int .i64 0, .int .u64 0, .slice none 0 0, .slice none 0 0, .int .i64 0, .int .i64 0] 26 47 47 71)
  have NP := hide (fun w => newPushYes P T a p ha hp w)
  have lRR := hide lR
  have lR := hide lR
  clear h hz ha hp
  go_enter Try.func34, Try.ntmps34
  go_wp2_with (first
    | fail
    | (refine wpList_store_row rfl 71 _ _ rfl _ _ rfl rfl _ _ hgx.out (by kernel_rfl) rfl (by kernel_rfl) ?_
       rw [hse.out]
       generalize (((w.alloc (.cells #[.int .i64 P, .int .i64 T] 26)).alloc (.cells #[.pointer none, .pointer none, .pointer none] 47)).alloc (.cells #[.pointer none, .pointer none, .pointer none] 47)).alloc (.cells #[.int .i64 1, .int .i64 P, .int .i64 T, .int .i64 0, .int .i64 p, .int .i64 0, .int .i64 0, .int .i64 0, .int .i64 a, .int .i64 0, .int .i64 0, .int .u64 0, .bool false, .slice none 0 0, .slice none 0 0, .bool false, .int .i64 0, .bool false, .pointer none, .int .i64 0, .int .i64 0, .int .u64 0, .int .u64 0, .int .i64 0, .int .i64 0, .int .i64 0, .int .i64 0, .int .u64 0, .slice none 0 0, .slice none 0 0, .int .i64 0, .int .i64 0] 71) = u1 at *
       generalize w.heap.size = b1 at *
       clear hgx hse
       have lay0 : u1.cell? ⟨b1, 0, none⟩ = some (.int .i64 P) := cell_of_heap (O1.out.has (R := Sep (BO (b1 + 1) (.cells #[.pointer none, .pointer none, .pointer none] 47 (0, 0))) (Sep (BO (b1 + 1 + 1) (.cells #[.pointer none, .pointer none, .pointer none] 47 (0, 0))) (Sep (BO (b1 + 1 + 1 + 1) (.cells #[.int .i64 1, .int .i64 P, .int .i64 T, .int .i64 0, .int .i64 p, .int .i64 0, .int .i64 0, .int .i64 0, .int .i64 a, .int .i64 0, .int .i64 0, .int .u64 0, .bool false, .slice none 0 0, .slice none 0 0, .bool false, .int .i64 0, .bool false, .pointer none, .int .i64 0, .int .i64 0, .int .u64 0, .int .u64 0, .int .i64 0, .int .i64 0, .int .i64 0, .int .i64 0, .int .u64 0, .slice none 0 0, .slice none 0 0, .int .i64 0, .int .i64 0] 71 (0, 0))) R))) (by ac_rfl))
       have lay1 : u1.cell? ⟨b1, 1, none⟩ = some (.int .i64 T) := cell_of_heap (O1.out.has (R := Sep (BO (b1 + 1) (.cells #[.pointer none, .pointer none, .pointer none] 47 (0, 0))) (Sep (BO (b1 + 1 + 1) (.cells #[.pointer none, .pointer none, .pointer none] 47 (0, 0))) (Sep (BO (b1 + 1 + 1 + 1) (.cells #[.int .i64 1, .int .i64 P, .int .i64 T, .int .i64 0, .int .i64 p, .int .i64 0, .int .i64 0, .int .i64 0, .int .i64 a, .int .i64 0, .int .i64 0, .int .u64 0, .bool false, .slice none 0 0, .slice none 0 0, .bool false, .int .i64 0, .bool false, .pointer none, .int .i64 0, .int .i64 0, .int .u64 0, .int .u64 0, .int .i64 0, .int .i64 0, .int .i64 0, .int .i64 0, .int .u64 0, .slice none 0 0, .slice none 0 0, .int .i64 0, .int .i64 0] 71 (0, 0))) R))) (by ac_rfl))
       have mc0 : u1.cell? ⟨b1 + 1 + 1 + 1, 0, none⟩ = some (.int .i64 1) := cell_of_heap (Own.boAt O1.out)
       have mf0 : ∀ o, u1.frozen? ⟨b1 + 1 + 1 + 1, o, none⟩ = false := fun o => frozen_of_heap (Own.boAt O1.out)))
  refine (NP.out _).mono ?_
  rintro e u2 ⟨m, rfl, hm1, hm2, hm3⟩
  have lR := lR.out
  have o2 := Own.boNew (Loc.bo.sep (Loc.bo.sep (Loc.bo.sep (Loc.bo.sep lR)))) (Own.boSet (Loc.bo.sep (Loc.bo.sep (Loc.bo.sep lR))) O1.out 0 (.int .i64 2)) hm1 hm2 hm3
  have o2' : Own (Sep (BO (b1 + 1 + 1) (.cells #[.pointer none, .pointer none, .pointer none] 47 (0, 0))) (Sep (BO (b1 + 1 + 1 + 1) (.cells #[.int .i64 2, .int .i64 P, .int .i64 T, .int .i64 0, .int .i64 p, .int .i64 0, .int .i64 0, .int .i64 0, .int .i64 a, .int .i64 0, .int .i64 0, .int .u64 0, .bool false, .slice none 0 0, .slice none 0 0, .bool false, .int .i64 0, .bool false, .pointer none, .int .i64 0, .int .i64 0, .int .u64 0, .int .u64 0, .int .i64 0, .int .i64 0, .int .i64 0, .int .i64 0, .int .u64 0, .slice none 0 0, .slice none 0 0, .int .i64 0, .int .i64 0] 71 (0, 0))) (Sep (BO (b1 + 1) (.cells #[.pointer none, .pointer none, .pointer none] 47 (0, 0))) (Sep (BO b1 (.cells #[.int .i64 P, .int .i64 T] 26 (0, 0))) (Sep (BO m (pushO P T a 0 0 p)) R))))) w0 u2 := o2.cast (by ac_rfl)
  have lr1 : Loc (Sep (BO (b1 + 1 + 1 + 1) (.cells #[.int .i64 2, .int .i64 P, .int .i64 T, .int .i64 0, .int .i64 p, .int .i64 0, .int .i64 0, .int .i64 0, .int .i64 a, .int .i64 0, .int .i64 0, .int .u64 0, .bool false, .slice none 0 0, .slice none 0 0, .bool false, .int .i64 0, .bool false, .pointer none, .int .i64 0, .int .i64 0, .int .u64 0, .int .u64 0, .int .i64 0, .int .i64 0, .int .i64 0, .int .i64 0, .int .u64 0, .slice none 0 0, .slice none 0 0, .int .i64 0, .int .i64 0] 71 (0, 0))) (Sep (BO (b1 + 1) (.cells #[.pointer none, .pointer none, .pointer none] 47 (0, 0))) (Sep (BO b1 (.cells #[.int .i64 P, .int .i64 T] 26 (0, 0))) (Sep (BO m (pushO P T a 0 0 p)) R)))) := Loc.bo.sep (Loc.bo.sep (Loc.bo.sep (Loc.bo.sep lR)))
  have fm : ∀ o, u2.frozen? ⟨b1 + 1 + 1, o, none⟩ = false := fun o => frozen_of_heap (Own.boAt o2')
  have cm0 : u2.cell? ⟨b1 + 1 + 1, 1, none⟩ = some (.pointer none) := cell_of_heap (Own.boAt o2')
  have o3 := Own.boSet lr1 o2' 1 (.pointer (some ⟨m, 0, none⟩))
  have hM := hide (o3.has (m := b1 + 1 + 1 + 1) (R := Sep (BO (b1 + 1 + 1) _) (Sep (BO (b1 + 1) (.cells #[.pointer none, .pointer none, .pointer none] 47 (0, 0))) (Sep (BO b1 (.cells #[.int .i64 P, .int .i64 T] 26 (0, 0))) (Sep (BO m (pushO P T a 0 0 p)) R)))) (by ac_rfl))
  have O3 := hide o3
  have LR := hide lr1
  clear o2 o2' o3 lr1 O1 NP hm1 hm2 hm3 lay0 lay1 mc0 mf0 lR
  go_wp2_with (first
    | fail
    | (refine wpList_load_row rfl 71 _ rfl _ rfl 71 #[.int .i64 2, .int .i64 P, .int .i64 T, .int .i64 0, .int .i64 p, .int .i64 0, .int .i64 0, .int .i64 0, .int .i64 a, .int .i64 0, .int .i64 0, .int .u64 0, .bool false, .slice none 0 0, .slice none 0 0, .bool false, .int .i64 0, .bool false, .pointer none, .int .i64 0, .int .i64 0, .int .u64 0, .int .u64 0, .int .i64 0, .int .i64 0, .int .i64 0, .int .i64 0, .int .u64 0, .slice none 0 0, .slice none 0 0, .int .i64 0, .int .i64 0] (0, 0) _ hM.out Try.underlying71 rfl (by kernel_rfl) ?_))
  refine (m_new (k := kPush P T a p) (v := vZero) (Loc.bo.sep LR.out) O3.out).mono ?_
  rintro e u4 ⟨b, rfl, o4⟩
  generalize hR : Sep (BO (b1 + 1 + 1 + 1) _) _ = R1 at *
  have l4 : Loc (Sep (BO b (mObj (kPush P T a p) vZero.fresh)) R1) := Loc.bo.sep LR.out
  have o5 : Own (Sep (BO (b1 + 1 + 1) (.cells #[.pointer none, .pointer (some ⟨m, 0, none⟩), .pointer none] 47 (0, 0))) (Sep (BO b (mObj (kPush P T a p) vZero.fresh)) R1)) w0 u4 := o4.cast (by ac_rfl)
  have fm : ∀ o, u4.frozen? ⟨b1 + 1 + 1, o, none⟩ = false := fun o => frozen_of_heap (Own.boAt o5)
  have cm2 : u4.cell? ⟨b1 + 1 + 1, 2, none⟩ = some (.pointer none) := cell_of_heap (Own.boAt o5)
  have O6 := hide (Own.boSet l4 o5 2 (.pointer (some ⟨b, 0, none⟩)))
  have L4 := hide l4
  clear o4 o5 l4 O3 hM
  go_upto_region 8 with fail
  generalize u4.setCell ⟨b1 + 1 + 1, 2, none⟩ (.pointer (some ⟨b, 0, none⟩)) = u5 at *
  clear fm cm2 LR L4
  subst hR
  have o7 : Own (Sep (BO (b1 + 1) (.cells #[.pointer none, .pointer none, .pointer none] 47 (0, 0))) (Sep (BO (b1 + 1 + 1) (.cells #[.pointer none, .pointer (some ⟨m, 0, none⟩), .pointer (some ⟨b, 0, none⟩)] 47 (0, 0))) (Sep (BO b (mObj (kPush P T a p) vZero.fresh)) (Sep (BO (b1 + 1 + 1 + 1) (.cells #[.int .i64 2, .int .i64 P, .int .i64 T, .int .i64 0, .int .i64 p, .int .i64 0, .int .i64 0, .int .i64 0, .int .i64 a, .int .i64 0, .int .i64 0, .int .u64 0, .bool false, .slice none 0 0, .slice none 0 0, .bool false, .int .i64 0, .bool false, .pointer none, .int .i64 0, .int .i64 0, .int .u64 0, .int .u64 0, .int .i64 0, .int .i64 0, .int .i64 0, .int .i64 0, .int .u64 0, .slice none 0 0, .slice none 0 0, .int .i64 0, .int .i64 0] 71 (0, 0))) (Sep (BO b1 (.cells #[.int .i64 P, .int .i64 T] 26 (0, 0))) (Sep (BO m (pushO P T a 0 0 p)) R)))))) w0 u5 := O6.out.cast (by ac_rfl)
  have l7 : Loc (Sep (BO (b1 + 1 + 1) (.cells #[.pointer none, .pointer (some ⟨m, 0, none⟩), .pointer (some ⟨b, 0, none⟩)] 47 (0, 0))) (Sep (BO b (mObj (kPush P T a p) vZero.fresh)) (Sep (BO (b1 + 1 + 1 + 1) (.cells #[.int .i64 2, .int .i64 P, .int .i64 T, .int .i64 0, .int .i64 p, .int .i64 0, .int .i64 0, .int .i64 0, .int .i64 a, .int .i64 0, .int .i64 0, .int .u64 0, .bool false, .slice none 0 0, .slice none 0 0, .bool false, .int .i64 0, .bool false, .pointer none, .int .i64 0, .int .i64 0, .int .u64 0, .int .u64 0, .int .i64 0, .int .i64 0, .int .i64 0, .int .i64 0, .int .u64 0, .slice none 0 0, .slice none 0 0, .int .i64 0, .int .i64 0] 71 (0, 0))) (Sep (BO b1 (.cells #[.int .i64 P, .int .i64 T] 26 (0, 0))) (Sep (BO m (pushO P T a 0 0 p)) R))))) := Loc.bo.sep (Loc.bo.sep (Loc.bo.sep (Loc.bo.sep (Loc.bo.sep lRR.out))))
  have r0 : u5.cell? ⟨b1 + 1, 0, none⟩ = some (.pointer none) := cell_of_heap (Own.boAt o7)
  have r1 : u5.cell? ⟨b1 + 1, 1, none⟩ = some (.pointer none) := cell_of_heap (Own.boAt o7)
  have r2 : u5.cell? ⟨b1 + 1, 2, none⟩ = some (.pointer none) := cell_of_heap (Own.boAt o7)
  have fr : ∀ o, u5.frozen? ⟨b1 + 1, o, none⟩ = false := fun o => frozen_of_heap (Own.boAt o7)
  have hq := o7.has (R := Sep (BO (b1 + 1) (.cells #[.pointer none, .pointer none, .pointer none] 47 (0, 0))) (Sep (BO b (mObj (kPush P T a p) vZero.fresh)) (Sep (BO (b1 + 1 + 1 + 1) (.cells #[.int .i64 2, .int .i64 P, .int .i64 T, .int .i64 0, .int .i64 p, .int .i64 0, .int .i64 0, .int .i64 0, .int .i64 a, .int .i64 0, .int .i64 0, .int .u64 0, .bool false, .slice none 0 0, .slice none 0 0, .bool false, .int .i64 0, .bool false, .pointer none, .int .i64 0, .int .i64 0, .int .u64 0, .int .u64 0, .int .i64 0, .int .i64 0, .int .i64 0, .int .i64 0, .int .u64 0, .slice none 0 0, .slice none 0 0, .int .i64 0, .int .i64 0] 71 (0, 0))) (Sep (BO b1 (.cells #[.int .i64 P, .int .i64 T] 26 (0, 0))) (Sep (BO m (pushO P T a 0 0 p)) R))))) (m := b1 + 1 + 1) (by ac_rfl)
  have q0 : u5.cell? ⟨b1 + 1 + 1, 0, none⟩ = some (.pointer none) := cell_of_heap hq
  have q1 : u5.cell? ⟨b1 + 1 + 1, 1, none⟩ = some (.pointer (some ⟨m, 0, none⟩)) := cell_of_heap hq
  have q2 : u5.cell? ⟨b1 + 1 + 1, 2, none⟩ = some (.pointer (some ⟨b, 0, none⟩)) := cell_of_heap hq
  have O7 := hide o7
  have L7 := hide l7
  clear o7 l7 O6 hq
  have O8 := hide ((Own.boSet L7.out (Own.boSet L7.out (Own.boSet L7.out O7.out 0 (.pointer none)) 1 (.pointer (some ⟨m, 0, none⟩))) 2 (.pointer (some ⟨b, 0, none⟩))).below (Loc.bo.sep L7.out) ((Alike.drewN _ 1).below _))
  clear O7
  go_region
  have O9 : Hid (Own (Sep (BO (b1 + 1) (.cells #[.pointer none, .pointer (some ⟨m, 0, none⟩), .pointer (some ⟨b, 0, none⟩)] 47 (0, 0))) (Sep (BO (b1 + 1 + 1) (.cells #[.pointer none, .pointer (some ⟨m, 0, none⟩), .pointer (some ⟨b, 0, none⟩)] 47 (0, 0))) (Sep (BO b (mObj (kPush P T a p) vZero.fresh)) (Sep (BO (b1 + 1 + 1 + 1) _) (Sep (BO b1 _) (Sep (BO m (pushO P T a 0 0 p)) R)))))) w0 ((((u5.setCell ⟨b1 + 1, 0, none⟩ (.pointer none)).setCell ⟨b1 + 1, 1, none⟩ (.pointer (some ⟨m, 0, none⟩))).setCell ⟨b1 + 1, 2, none⟩ (.pointer (some ⟨b, 0, none⟩))).drew)) := O8
  clear O8 r0 r1 r2 fr q0 q1 q2 L7
  generalize ((((u5.setCell ⟨b1 + 1, 0, none⟩ (.pointer none)).setCell ⟨b1 + 1, 1, none⟩ (.pointer (some ⟨m, 0, none⟩))).setCell ⟨b1 + 1, 2, none⟩ (.pointer (some ⟨b, 0, none⟩))).drew) = u6 at *
  have r0 : u6.cell? ⟨b1 + 1, 0, none⟩ = some (.pointer none) := cell_of_heap (Own.boAt O9.out)
  have r1 : u6.cell? ⟨b1 + 1, 1, none⟩ = some (.pointer (some ⟨m, 0, none⟩)) := cell_of_heap (Own.boAt O9.out)
  have r2 : u6.cell? ⟨b1 + 1, 2, none⟩ = some (.pointer (some ⟨b, 0, none⟩)) := cell_of_heap (Own.boAt O9.out)
  go_wp2
  refine bodyPost_ret (by simp [results, Try.results34, go_sem, r0, r1, r2]; try rfl) rfl ?_
  refine ⟨m, b, rfl, ?_⟩
  have o := O9.out.drop.drop
  have o' := o.cast (R' := Sep (BO (b1 + 1 + 1 + 1) _) (Sep (BO b1 _) (Sep (BO b (mObj (kPush P T a p) vZero.fresh)) (Sep (BO m (pushO P T a 0 0 p)) R)))) (by ac_rfl)
  exact o'.drop.drop.cast (by ac_rfl)
end
end Go.Proofs.Ytafamfjgehnddaa

namespace Go.Proofs.Ytafamfjgehnddaa
open Go Go.RowKit

section
variable {R : Res} {w0 w : World} {b : Nat} {k : MK} {v : MV}
/-- What is left of a machine whose text came to an end with the page g (ok), or did not. -/
def MV.ended (v : MV) (g : Int) (ok : Bool) : MV := if ok = true then { v with got := g } else { { v with got := g } with got := -1, code := 2, live := .slice none 0 0 }

end
end Go.Proofs.Ytafamfjgehnddaa

namespace Go.Proofs.Ytafamfjgehnddaa
open Go Go.RowKit

/-- What all attempts of a push are like. -/
def LostP (A : List Att) : Prop := ∀ a ∈ A, a.x < 18446744073709551616 ∧ a.z ≠ a.x
theorem page_nat (x : Nat) : ∃ va : Nat, va ≤ 4096 ∧ Tg.page x = (va : Int) - 1 := ⟨(Tg.page x + 1).toNat, by have := Tg.page_may x; omega, by have := Tg.page_may x; omega⟩

section
variable {R : Res} {w0 w : World} {b : Nat} {k : MK} {v : MV} {qb : Nat} {pb rb : Nat} {s : St} {pg : Nat} {ds : List Nat} {dn : Nat} {L : RL}

end
end Go.Proofs.Ytafamfjgehnddaa

namespace Go.Proofs.Ytafamfjgehnddaa
open Go Go.RowKit

/-- The words that stacks have, as machines leave them: a head's page is there, or none; what is named is there, or none. -/
structure Words12 (P T : Int) (ws : List Nat) : Prop where
  may : Lay.may P T = true
  len : ws.length = (Lay.words P T).toNat
  bd : ∀ i, ws.getD i 0 < 18446744073709551616
  head : ∀ i, 8 ≤ i → i < 68 → Tg.page (ws.getD i 0) < P
  next : ∀ p : Int, 0 ≤ p → p < P → (ws.getD (Lay.page P T 11 p).1.toNat 0 : Int) ≤ P

/-- The document's pop stands where the program's M stands. -/
def PopIs (P : Int) (M : PopS) (v : MV) (l : List Nat) : Prop :=
  v.got = (if M.g = 3 then M.page else -1) ∧
  ((M.g = 3 ∧ v.done = true) ∨ (v.done = false ∧ ∃ A : List Att, Lost A ∧ 3 * A.length ≤ l.length ∧
    ((M.g = 0 ∧ l = flat A ++ []) ∨
     (M.g = 1 ∧ l = flat A ++ [M.was] ∧ M.was < 18446744073709551616 ∧ Tg.page M.was = M.page ∧ 0 ≤ M.page ∧ M.page < P) ∨
     (M.g = 2 ∧ ∃ y : Nat, l = flat A ++ [M.was, y] ∧ y < 18446744073709551616 ∧ M.was < 18446744073709551616 ∧ Tg.page M.was = M.page ∧ 0 ≤ M.page ∧ M.page < P ∧ (y : Int) % 4294967296 - 1 = M.below))))

/-- The document's push stands where the program's M stands. -/
def PushIs (M : PushS) (v : MV) (l : List Nat) : Prop :=
  (M.g = 3 ∧ v.done = true) ∨ (v.done = false ∧ ∃ A : List Att, LostP A ∧ 3 * A.length ≤ l.length ∧
    ((M.g = 0 ∧ l = flat A ++ []) ∨ (M.g = 1 ∧ l = flat A ++ [M.was] ∧ M.was < 18446744073709551616) ∨ (M.g = 2 ∧ ∃ y : Nat, l = flat A ++ [M.was, y] ∧ M.was < 18446744073709551616)))

section
variable {R : Res} {w0 w : World} {b : Nat} {k : MK} {v : MV} {qb : Nat} {pb rb : Nat} {s : St} {pg : Nat} {ds : List Nat} {dn : Nat} {L : RL} {l : List Nat}

end
end Go.Proofs.Ytafamfjgehnddaa

namespace Go.Proofs.Ytafamfjgehnddaa
open Go Go.RowKit

theorem Tg.page_next (x : Nat) (y : Int) (h1 : -1 ≤ y) (h2 : y < 4096) : Tg.page (Tg.next x y).1 = y := by
  unfold Tg.next
  rw [Tg.make_in _ _ h1 h2]
  exact Tg.page_head _ _ h1 h2

/-- What a pop on its way holds. -/
def PopOk (P : Int) (M : PopS) : Prop := M.was < 18446744073709551616 ∧ (M.g = 1 → 0 ≤ M.page ∧ M.page < P) ∧ (M.g = 2 → 0 ≤ M.page ∧ M.page < P ∧ -1 ≤ M.below ∧ M.below < P)
def PushOk (P : Int) (M : PushS) : Prop := M.was < 18446744073709551616 ∧ 0 ≤ M.page ∧ M.page < P ∧ (M.g = 1 → Tg.page M.was < P)

theorem Words12.set {P T : Int} {ws : List Nat} (h : Words12 P T ws) (i : Nat) (hi : i < 68) (x : Nat) (hx : x < 18446744073709551616) (hp : Tg.page x < P) : Words12 P T (ws.set i x) := by
  have hw90 : 90 ≤ (Lay.words P T).toNat := by have := Lay.words_bd h.may; omega
  have hl := h.len
  refine ⟨h.may, by rw [List.length_set]; exact h.len, fun j => ?_, fun j h1 h2 => ?_, fun p h1 h2 => ?_⟩
  · by_cases e : i = j
    · subst e; rw [getD_set_eq _ _ _ (by omega)]; exact hx
    · rw [getD_set_ne _ _ _ _ e]; exact h.bd j
  · by_cases e : i = j
    · subst e; rw [getD_set_eq _ _ _ (by omega)]; exact hp
    · rw [getD_set_ne _ _ _ _ e]; exact h.head j h1 h2
  · have := knx_in h.may h1 h2
    have hn := h.next p h1 h2
    rw [knx_at h.may h1 h2] at hn ⊢
    rw [getD_set_ne _ _ _ _ (by omega)]
    exact hn
theorem Words12.put {P T : Int} {ws : List Nat} (h : Words12 P T ws) (y : Int) (h1 : 0 ≤ y) (h2 : y < P) (x : Nat) (hx : (x : Int) ≤ P) : Words12 P T (ws.set (Lay.page P T 11 y).1.toNat x) := by
  have hk := knx_in h.may h1 h2
  have hl := h.len
  obtain ⟨m1, m2, m3, m4⟩ := Lay.may_iff.1 h.may
  rw [knx_at h.may h1 h2]
  refine ⟨h.may, by rw [List.length_set]; exact h.len, fun j => ?_, fun j q1 q2 => ?_, fun p q1 q2 => ?_⟩
  · by_cases e : knx T y = j
    · subst e; rw [getD_set_eq _ _ _ (by omega)]; omega
    · rw [getD_set_ne _ _ _ _ e]; exact h.bd j
  · rw [getD_set_ne _ _ _ _ (by omega)]; exact h.head j q1 q2
  · have hn := h.next p q1 q2
    rw [knx_at h.may q1 q2] at hn ⊢
    by_cases e : p = y
    · subst e; rw [getD_set_eq _ _ _ (by omega)]; exact hx
    · rw [getD_set_ne _ _ _ _ (knx_ne h.may h1 q1 (fun q => e q.symm))]; exact hn

theorem popN_keeps {P T : Int} {i : Nat} {M : PopS} {s : St} (hW : Words12 P T s.words) (h1 : 8 ≤ i) (h2 : i < 68) (hg : M.g = 0 ∨ M.g = 1 ∨ M.g = 2) (hM : PopOk P M) :
    Words12 P T (popN P T i M s).2.words ∧ PopOk P (popN P T i M s).1 ∧ ((popN P T i M s).1.g = 0 ∨ (popN P T i M s).1.g = 1 ∨ (popN P T i M s).1.g = 2 ∨ (popN P T i M s).1.g = 3) := by
  obtain ⟨g, was, page, below⟩ := M
  obtain ⟨m1, m2, m3, m4⟩ := Lay.may_iff.1 hW.may
  obtain ⟨k1, k2, k3⟩ := hM
  simp only at k1 k2 k3 hg
  rcases hg with rfl | rfl | rfl
  · have hx := hW.bd i
    have hh := hW.head i h1 h2
    unfold popN
    rw [if_pos rfl]
    refine ⟨by rw [st_load_words]; exact hW, ?_, ?_⟩
    · split
      · rename_i hok
        obtain ⟨_, q2, q3, _⟩ := next_may hok
        exact ⟨hx, fun _ => ⟨q2, q3⟩, fun e => absurd e (by show ¬ ((1 : Int) = 2); decide)⟩
      · exact ⟨hx, fun e => absurd e (by show ¬ ((3 : Int) = 1); decide), fun e => absurd e (by show ¬ ((3 : Int) = 2); decide)⟩
    · split
      · exact .inr (.inl rfl)
      · exact .inr (.inr (.inr rfl))
  · obtain ⟨p1, p2⟩ := k2 rfl
    have hn := hW.next page p1 p2
    unfold popN
    rw [if_neg (by show ¬ ((1 : Int) = 0); decide), if_pos rfl]
    refine ⟨by rw [st_load_words]; exact hW, ⟨k1, fun e => absurd e (by show ¬ ((2 : Int) = 1); decide), fun _ => ⟨p1, p2, ?_⟩⟩, .inr (.inr (.inl rfl))⟩
    show -1 ≤ nmd _ ∧ nmd _ < P
    generalize s.words.getD (Lay.page P T 11 page).1.toNat 0 = y at *
    unfold nmd
    rw [if_pos (by omega)]
    omega
  · obtain ⟨p1, p2, p3, p4⟩ := k3 rfl
    unfold popN
    rw [if_neg (by show ¬ ((2 : Int) = 0); decide), if_neg (by show ¬ ((2 : Int) = 1); decide)]
    refine ⟨?_, ⟨k1, fun e => ?_, fun e => ?_⟩, ?_⟩
    · show Words12 P T (s.cas i was (Tg.next was below).1).words
      by_cases hz : s.words.getD i 0 = was
      · rw [(st_cas_won s i was _ hz).1]
        exact hW.set i h2 _ (Tg.next_lt _ _) (by rw [Tg.page_next _ _ p3 (by omega)]; exact p4)
      · rw [(st_cas_lost s i was _ hz).1]; exact hW
    · revert e
      show (if s.words.getD i 0 = was then (3 : Int) else 0) = 1 → _
      split <;> (intro e; omega)
    · revert e
      show (if s.words.getD i 0 = was then (3 : Int) else 0) = 2 → _
      split <;> (intro e; omega)
    · show (if s.words.getD i 0 = was then (3 : Int) else 0) = 0 ∨ (if s.words.getD i 0 = was then (3 : Int) else 0) = 1 ∨ (if s.words.getD i 0 = was then (3 : Int) else 0) = 2 ∨ (if s.words.getD i 0 = was then (3 : Int) else 0) = 3
      split <;> omega
theorem pushN_keeps {P T : Int} {i : Nat} {M : PushS} {s : St} (hW : Words12 P T s.words) (h1 : 8 ≤ i) (h2 : i < 68) (hg : M.g = 0 ∨ M.g = 1 ∨ M.g = 2) (hM : PushOk P M) :
    Words12 P T (pushN P T i M s).2.words ∧ PushOk P (pushN P T i M s).1 ∧ (pushN P T i M s).1.page = M.page ∧ ((pushN P T i M s).1.g = 0 ∨ (pushN P T i M s).1.g = 1 ∨ (pushN P T i M s).1.g = 2 ∨ (pushN P T i M s).1.g = 3) := by
  obtain ⟨g, was, page⟩ := M
  obtain ⟨m1, m2, m3, m4⟩ := Lay.may_iff.1 hW.may
  obtain ⟨k1, k2, k3, k4⟩ := hM
  simp only at k1 k2 k3 k4 hg
  rcases hg with rfl | rfl | rfl
  · have hx := hW.bd i
    have hh := hW.head i h1 h2
    unfold pushN
    rw [if_pos rfl]
    exact ⟨by rw [st_load_words]; exact hW, ⟨hx, k2, k3, fun _ => hh⟩, rfl, .inr (.inl rfl)⟩
  · unfold pushN
    rw [if_neg (by show ¬ ((1 : Int) = 0); decide), if_pos rfl]
    refine ⟨?_, ⟨k1, k2, k3, fun e => absurd e (by show ¬ ((2 : Int) = 1); decide)⟩, rfl, .inr (.inr (.inl rfl))⟩
    rw [st_put_words]
    exact hW.put page k2 k3 _ (by have := Tg.page_may was; have := k4 rfl; show (((Tg.page was + 1).toNat : Nat) : Int) ≤ P; omega)
  · unfold pushN
    rw [if_neg (by show ¬ ((2 : Int) = 0); decide), if_neg (by show ¬ ((2 : Int) = 1); decide)]
    refine ⟨?_, ⟨k1, k2, k3, fun e => ?_⟩, rfl, ?_⟩
    · show Words12 P T (s.cas i was (Tg.next was page).1).words
      by_cases hz : s.words.getD i 0 = was
      · rw [(st_cas_won s i was _ hz).1]
        exact hW.set i h2 _ (Tg.next_lt _ _) (by rw [Tg.page_next _ _ (by omega) (by omega)]; exact k3)
      · rw [(st_cas_lost s i was _ hz).1]; exact hW
    · revert e
      show (if s.words.getD i 0 = was then (3 : Int) else 0) = 1 → _
      split <;> (intro e; omega)
    · show (if s.words.getD i 0 = was then (3 : Int) else 0) = 0 ∨ (if s.words.getD i 0 = was then (3 : Int) else 0) = 1 ∨ (if s.words.getD i 0 = was then (3 : Int) else 0) = 2 ∨ (if s.words.getD i 0 = was then (3 : Int) else 0) = 3
      split <;> omega
end Go.Proofs.Ytafamfjgehnddaa

namespace Go.Proofs.Ytafamfjgehnddaa
open Go Go.RowKit

theorem first_getD (n i : Nat) : (St.first n).words.getD i 0 = if i = 0 ∧ 0 < n then 1 else 0 := by
  simp only [St.first, List.getD_eq_getElem?_getD, List.getElem?_set, List.length_replicate, List.getElem?_replicate]
  by_cases h : i = 0
  · subst h
    by_cases hn : 0 < n <;> simp [hn]
  · have h' : ¬ 0 = i := fun e => h e.symm
    simp only [h, h', if_false, false_and]
    by_cases hn : i < n <;> simp [hn]

theorem Words12.first {P T : Int} (hm : Lay.may P T = true) : Words12 P T (St.first (Lay.words P T).toNat).words := by
  obtain ⟨m1, m2, m3, m4⟩ := Lay.may_iff.1 hm
  have hw := Lay.words_bd hm
  refine ⟨hm, by simp [St.first], fun i => ?_, fun i h1 h2 => ?_, fun p p0 pP => ?_⟩
  · rw [first_getD]; split <;> omega
  · rw [first_getD, if_neg (by omega)]
    have : Tg.page 0 = -1 := by decide
    omega
  · rw [first_getD]
    split <;> omega

theorem PopIs.fresh (P : Int) : PopIs P ⟨0, 0, 0, 0⟩ vZero.fresh [] :=
  ⟨rfl, .inr ⟨rfl, [], fun _ h => (List.not_mem_nil h).elim, by simp, .inl ⟨rfl, rfl⟩⟩⟩
theorem PushIs.fresh (p : Int) : PushIs ⟨0, 0, p⟩ vZero.fresh [] :=
  .inr ⟨rfl, [], fun _ h => (List.not_mem_nil h).elim, by simp, .inl ⟨rfl, rfl⟩⟩

/-- A log of nothing lies nowhere. -/
theorem Own.logNil {R : Res} {w0 w : World} (h : Own R w0 w) : Own (Sep (LogR (.slice none 0 0) []) R) w0 w := by
  obtain ⟨G, h1, h2, h3⟩ := h
  refine ⟨G, ⟨fun _ => False, G, ⟨⟨rfl, .inl ⟨rfl, rfl⟩⟩, fun x => ⟨fun h => h.elim, fun h => by cases h⟩⟩, h1, fun x h => h.elim, fun x => ⟨.inr, fun h => h.elim (fun h => h.elim) id⟩⟩, h2, h3⟩

section
variable {R : Res} {w0 w : World}
/-- A pop of both sides, as the game begins it. -/
theorem beginPop (lR : Loc R) (P T a p : Int) (ha : Lay.isHead P T a = true) (h : Own R w0 w) :
    Calls Try.prog 34 #[.agg #[.int .i64 P, .int .i64 T], .bool false, .int .i64 a, .int .i64 p] w fun e w' => ∃ m b v l, e = .returned (.tuple #[.agg #[.pointer (some ⟨m, 0, none⟩), .pointer none, .pointer (some ⟨b, 0, none⟩)], .bool true]) ∧ PopIs P ⟨0, 0, 0, 0⟩ v l ∧ l.length = 0 ∧ Own (Sep (BO m (popO P T a 0 0 0 0)) (Sep (BO b (mObj (kPop P T a p) v)) (Sep (LogR v.log l) R))) w0 w' := by
  refine (madePop lR P T a p ha h).mono ?_
  rintro e w' ⟨m, b, he, o⟩
  exact ⟨m, b, vZero.fresh, [], he, PopIs.fresh P, rfl, (Own.logNil o).cast (by show Sep (LogR vZero.fresh.log []) _ = _; ac_rfl)⟩
theorem beginPush (lR : Loc R) (P T a p : Int) (ha : Lay.isHead P T a = true) (hp : (Lay.page P T 11 p).2 = true) (h : Own R w0 w) :
    Calls Try.prog 34 #[.agg #[.int .i64 P, .int .i64 T], .bool true, .int .i64 a, .int .i64 p] w fun e w' => ∃ m b v l, e = .returned (.tuple #[.agg #[.pointer none, .pointer (some ⟨m, 0, none⟩), .pointer (some ⟨b, 0, none⟩)], .bool true]) ∧ PushIs ⟨0, 0, p⟩ v l ∧ l.length = 0 ∧ Own (Sep (BO m (pushO P T a 0 0 p)) (Sep (BO b (mObj (kPush P T a p) v)) (Sep (LogR v.log l) R))) w0 w' := by
  refine (madePush lR P T a p ha hp h).mono ?_
  rintro e w' ⟨m, b, he, o⟩
  exact ⟨m, b, vZero.fresh, [], he, PushIs.fresh p, rfl, (Own.logNil o).cast (by show Sep (LogR vZero.fresh.log []) _ = _; ac_rfl)⟩
end
end Go.Proofs.Ytafamfjgehnddaa
