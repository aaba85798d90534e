/- The document's machine: fresh. The document's machine: fresh, idle, body, Step, of a pop and of a push. The document's sweep: load, load, put, put; by what was told (printed by gen/docswp.py). The document's New: a machine that has not begun. Many things beside one another, by number; rows of cells by number. (Of any program.) A put of both sides, as the laws ask for it. Both runs, held against each other: same. Both arenas of a setup without draws. Both arenas of a setup without draws; both held against each other. A list of numbers of 8 bits that came in, opened (any seat). A list of words that came in, opened (any seat). Two sweeps of both sides: what lies in memory while they are stepped. -/
import Derived.Test.YtafamfjgehnddaaGreatPD
import Derived.Test.YtafamfjgehnddaaGreatPA
import Derived.Test.YtafamfjgehnddaaGreatPS
import Derived.RangeFuncBox
import Derived.Test.YtafamfjgehnddaaGreatPY
import Derived.Test.YtafamfjgehnddaaGreatBase
import Derived.Test.YtafamfjgehnddaaGreatHeap
import Derived.Deep.Slices
import Derived.ChangeSame
import Derived.Carry
namespace Go.Proofs.YtafamfjgehnddaaGreat
open Go Go.RowKit

/-- What is told ahead of the first step. -/
def MV.fresh (v : MV) : MV := { v with at_ := 0, used := false, d0 := 0, d1 := 0, d2 := 0, d3 := 0, got := -1, code := 2, n := 0, gens := 0, freed := 0, live := .slice none 0 0, marks := .slice none 0 0, full := 0 }

theorem asObj {R : Res} {w0 u : World} {b : Nat} {k : MK} {v : MV} (c : Array Value) (e : c = mCells k v) (h : Own (Sep (BO b (.cells c 69 (0, 0))) R) w0 u) : Own (Sep (BO b (mObj k v)) R) w0 u := by subst e; exact h

section
variable {R : Res} {w0 w : World} {b : Nat} {k : MK} {v : MV}
set_option maxRecDepth 100000 in
set_option maxHeartbeats 400000 in
theorem m_fresh (lR : Loc R) (h : Own (Sep (BO b (mObj k v)) R) w0 w) :
    Calls Tryz.prog 51 #[.pointer (some ⟨b, 0, none⟩)] w fun e w' => e = .returned (.tuple #[]) ∧ Own (Sep (BO b (mObj k v.fresh)) R) w0 w' := by
  have hb := Own.boAt h
  have c16 : w.cell? ⟨b, 16, none⟩ = some (.int .i64 (v.at_ : Int)) := cell_of_heap hb
  have c17 : w.cell? ⟨b, 17, none⟩ = some (.bool v.used) := cell_of_heap hb
  have c19 : w.cell? ⟨b, 19, none⟩ = some (.int .i64 v.d0) := cell_of_heap hb
  have c20 : w.cell? ⟨b, 20, none⟩ = some (.int .i64 v.d1) := cell_of_heap hb
  have c21 : w.cell? ⟨b, 21, none⟩ = some (.int .u64 (v.d2 : Int)) := cell_of_heap hb
  have c22 : w.cell? ⟨b, 22, none⟩ = some (.int .u64 (v.d3 : Int)) := cell_of_heap hb
  have c23 : w.cell? ⟨b, 23, none⟩ = some (.int .i64 v.got) := cell_of_heap hb
  have c24 : w.cell? ⟨b, 24, none⟩ = some (.int .i64 v.code) := cell_of_heap hb
  have c25 : w.cell? ⟨b, 25, none⟩ = some (.int .i64 v.n) := cell_of_heap hb
  have c26 : w.cell? ⟨b, 26, none⟩ = some (.int .i64 v.gens) := cell_of_heap hb
  have c27 : w.cell? ⟨b, 27, none⟩ = some (.int .u64 (v.freed : Int)) := cell_of_heap hb
  have c28 : w.cell? ⟨b, 28, none⟩ = some v.live := cell_of_heap hb
  have c29 : w.cell? ⟨b, 29, none⟩ = some v.marks := cell_of_heap hb
  have c30 : w.cell? ⟨b, 30, none⟩ = some (.int .i64 v.full) := cell_of_heap hb
  have fb : ∀ o, w.frozen? ⟨b, o, none⟩ = false := fun o => frozen_of_heap hb
  have B := fun (c : Array Value) (u : World) (q : Nat) (x : Value) (hh : Own (Sep (BO b (.cells c 69 (0, 0))) R) w0 u) => Own.boSet lR hh q x
  have HE := hide (B _ _ 24 (.int .i64 2) (B _ _ 30 (.int .i64 0) (B _ _ 29 (.slice none 0 0) (B _ _ 28 (.slice none 0 0) (B _ _ 27 (.int .u64 0) (B _ _ 26 (.int .i64 0) (B _ _ 25 (.int .i64 0) (B _ _ 23 (.int .i64 (-1)) (B _ _ 22 (.int .u64 0) (B _ _ 21 (.int .u64 0) (B _ _ 20 (.int .i64 0) (B _ _ 19 (.int .i64 0) (B _ _ 17 (.bool false) (B _ _ 16 (.int .i64 0) h))))))))))))))
  clear h hb B
  go_enter Tryz.func51, Tryz.ntmps51
  go_wp2
  go_end0
  exact ⟨rfl, asObj _ (by kernel_rfl) HE.out⟩
end
end Go.Proofs.YtafamfjgehnddaaGreat

namespace Go.Proofs.YtafamfjgehnddaaGreat
open Go Go.RowKit

section
variable {R : Res} {w0 w : World} {b : Nat} {k : MK} {v : MV}
theorem m_idle (lR : Loc R) (h : Own (Sep (BO b (mObj k v)) R) w0 w) :
    Calls Tryz.prog 105 #[.pointer (some ⟨b, 0, none⟩)] w fun e w' => e = .returned (.tuple #[]) ∧ Own (Sep (BO b (mObj k { v with got := -1, code := 2, live := .slice none 0 0 })) R) w0 w' := by
  have hb := Own.boAt h
  have c23 : w.cell? ⟨b, 23, none⟩ = some (.int .i64 v.got) := cell_of_heap hb
  have c24 : w.cell? ⟨b, 24, none⟩ = some (.int .i64 v.code) := cell_of_heap hb
  have c28 : w.cell? ⟨b, 28, none⟩ = some v.live := cell_of_heap hb
  have fb : ∀ o, w.frozen? ⟨b, o, none⟩ = false := fun o => frozen_of_heap hb
  have HE : Hid (Own (Sep (BO b (mObj k { v with got := -1, code := 2, live := .slice none 0 0 })) R) w0 (((w.setCell ⟨b, 23, none⟩ (.int .i64 (-1))).setCell ⟨b, 24, none⟩ (.int .i64 2)).setCell ⟨b, 28, none⟩ (.slice none 0 0))) := hide (Own.boSet lR (Own.boSet lR (Own.boSet lR h 23 (.int .i64 (-1))) 24 (.int .i64 2)) 28 (.slice none 0 0))
  clear h hb
  go_enter Tryz.func105, Tryz.ntmps105
  go_wp2
  go_end0
  exact ⟨rfl, HE.out⟩

/-- What is left of a machine whose text came to an end with the page g (ok), or did not. -/
def MV.ended (v : MV) (g : Int) (ok : Bool) : MV := if ok = true then { v with got := g } else { { v with got := g } with got := -1, code := 2, live := .slice none 0 0 }

set_option maxRecDepth 100000 in
set_option maxHeartbeats 1000000 in
theorem body_pop (h : Own (Sep (BO b (mObj k v)) R) w0 w) (hwh : k.what = 1) (g : Int) (ok : Bool) (G : MV → Res → Prop) (R0 : Res) (l0 : Loc R0)
    (hp : ∀ u, Own (Sep (BO b (mObj k v)) R) w0 u → Calls Tryz.prog 85 #[.pointer (some ⟨b, 0, none⟩), .int .i64 k.head, .int .i64 0] u fun e u' => e = .returned (.tuple #[.int .i64 g, .bool ok]) ∧ ∃ v' F, Loc F ∧ G v' F ∧ Own (Sep (BO b (mObj k v')) (Sep F R0)) w0 u') :
    Calls Tryz.prog 56 #[.pointer (some ⟨b, 0, none⟩)] w fun e w' => e = .returned (.bool ok) ∧ ∃ v' F, Loc F ∧ G v' F ∧ Own (Sep (BO b (mObj k (v'.ended g ok))) (Sep F R0)) w0 w' := by
  have hb := Own.boAt h
  have c0 : w.cell? ⟨b, 0, none⟩ = some (.int .i64 1) := by rw [← hwh]; exact cell_of_heap hb
  have c8 : w.cell? ⟨b, 8, none⟩ = some (.int .i64 k.head) := cell_of_heap hb
  have HP := hide (hp _ h)
  clear h hb hp
  go_enter Tryz.func56, Tryz.ntmps56
  go_wp2_with fail
  refine HP.out.mono ?_
  rintro e w1 ⟨rfl, v', F, lF, hG, o1⟩
  have O1 := hide o1
  have HG := hide hG
  have c23 : w1.cell? ⟨b, 23, none⟩ = some (.int .i64 v'.got) := cell_of_heap (Own.boAt o1)
  have f23 : ∀ o, w1.frozen? ⟨b, o, none⟩ = false := fun o => frozen_of_heap (Own.boAt o1)
  have O2 : Hid (Own (Sep (BO b (mObj k { v' with got := g })) (Sep F R0)) w0 (w1.setCell ⟨b, 23, none⟩ (.int .i64 g))) := hide (Own.boSet (lF.sep l0) o1 23 (.int .i64 g))
  clear o1 hG HP c0 c8 O1
  cases ok with
  | true =>
    go_wp2
    go_ret
    exact ⟨rfl, v', F, lF, HG.out, O2.out⟩
  | false =>
    go_wp2_with fail
    refine (m_idle (lF.sep l0) O2.out).mono ?_
    rintro e w2 ⟨rfl, o2⟩
    have O3 := hide o2
    go_wp2
    go_ret
    exact ⟨rfl, v', F, lF, HG.out, O3.out⟩

set_option maxRecDepth 100000 in
set_option maxHeartbeats 1000000 in
theorem body_push (lR : Loc R) (h : Own (Sep (BO b (mObj k v)) R) w0 w) (hwh : k.what = 2) (ok : Bool) (G : MV → Res → Prop) (R0 : Res) (l0 : Loc R0)
    (hp : ∀ u, Own (Sep (BO b (mObj k v)) R) w0 u → Calls Tryz.prog 86 #[.pointer (some ⟨b, 0, none⟩), .int .i64 k.head, .int .i64 k.page] u fun e u' => e = .returned (.bool ok) ∧ ∃ v' F, Loc F ∧ G v' F ∧ Own (Sep (BO b (mObj k v')) (Sep F R0)) w0 u') :
    Calls Tryz.prog 56 #[.pointer (some ⟨b, 0, none⟩)] w fun e w' => e = .returned (.bool ok) ∧ ∃ v' F, Loc F ∧ G v' F ∧ Own (Sep (BO b (mObj k (if ok = true then v' else { v' with got := -1, code := 2, live := .slice none 0 0 }))) (Sep F R0)) w0 w' := by
  have hb := Own.boAt h
  have c0 : w.cell? ⟨b, 0, none⟩ = some (.int .i64 2) := by rw [← hwh]; exact cell_of_heap hb
  have HO := hide h
  have HPF := hide hp
  clear h hb hp
  go_enter Tryz.func56, Tryz.ntmps56
  go_wp2
  have O1 := hide (HO.out.below (Loc.bo.sep lR) ((Alike.drewN w 1).below _))
  have J1 : Hid (Cel b 8 (.int .i64 k.head) w.drew ∧ Cel b 4 (.int .i64 k.page) w.drew) := hide ⟨cell_of_heap (Own.boAt O1.out), cell_of_heap (Own.boAt O1.out)⟩
  have hne : Nonempty (Mem (fun u => Cel b 8 (.int .i64 k.head) u ∧ Cel b 4 (.int .i64 k.page) u)) := ⟨⟨_, J1.out⟩⟩
  have U8 : ∀ u : Mem (fun u => Cel b 8 (.int .i64 k.head) u ∧ Cel b 4 (.int .i64 k.page) u), u.w'.cell? ⟨b, 8, none⟩ = some (.int .i64 k.head) := fun u => u.h.1
  have U4 : ∀ u : Mem (fun u => Cel b 8 (.int .i64 k.head) u ∧ Cel b 4 (.int .i64 k.page) u), u.w'.cell? ⟨b, 4, none⟩ = some (.int .i64 k.page) := fun u => u.h.2
  have HP := hide (HPF.out _ O1.out)
  clear HPF HO O1 c0
  refine region_start (J := fun u => Cel b 8 (.int .i64 k.head) u ∧ Cel b 4 (.int .i64 k.page) u) (by kernel_rfl) ?_
  refine stretch (fuel := 2) (by kernel_rfl) (fun _ _ _ _ _ h => h) J1.out [0, 1, 2, 3, 4, 5, 6, 7, 8] (by kernel_rfl) ?_
  simp only [List.filterMap_cons, List.filterMap_nil, List.getElem?_toArray, List.getElem?_cons_zero, List.getElem?_cons_succ]
  show wpQuiet _ _ _ _ [_, _, _, _, _, _, _, _, _] _
  repeat (go_big_quiet_step (fail))
  refine wpQuiet_nil ?_
  refine wpAnyJ_writer (i := 9) rfl (by kernel_rfl) (fun K' hK => ?_)
  go_simp
  refine HP.out.mono ?_
  rintro e w1 ⟨rfl, v', F, lF, hG, o1⟩
  have O1 := hide o1
  have HG := hide hG
  have J2 : Hid (Cel b 8 (.int .i64 k.head) w1 ∧ Cel b 4 (.int .i64 k.page) w1) := hide ⟨cell_of_heap (Own.boAt o1), cell_of_heap (Own.boAt o1)⟩
  refine hK _ _ J2.out ?_
  clear hK K' o1 hG HP
  refine stretch (fuel := 0) (by kernel_rfl) (fun _ _ _ _ _ h => h) J2.out [10] (by kernel_rfl) ?_
  simp only [List.filterMap_cons, List.filterMap_nil, List.getElem?_toArray, List.getElem?_cons_zero, List.getElem?_cons_succ]
  show wpQuiet _ _ _ _ [_] _
  repeat (go_big_quiet_step (fail))
  refine wpQuiet_nil ?_
  refine wpAnyJ_done (by kernel_rfl) ?_
  clear U8 U4 hne J1 J2
  cases ok with
  | true =>
    go_wp2
    go_ret
    exact ⟨rfl, v', F, lF, HG.out, O1.out⟩
  | false =>
    go_wp2_with fail
    refine (m_idle (lF.sep l0) O1.out).mono ?_
    rintro e w2 ⟨rfl, o2⟩
    have O3 := hide o2
    go_wp2
    go_ret
    exact ⟨rfl, v', F, lF, HG.out, O3.out⟩

set_option maxRecDepth 100000 in
set_option maxHeartbeats 2000000 in
/-- A step: what its text does, behind fresh. -/
theorem m_step {qb : Nat} {pb rb : Nat} {s : St} {pg : Nat} {ds : List Nat} {dn : Nat} {L : RL} {l : List Nat} (lR : Loc R) (h : Own (Sep (BO b (mObj k v)) (Sep (LogR v.log l) (Sep (MX qb k.P k.T pb rb s pg ds dn L) R))) w0 w) (hdn : v.done = false) (ok : Bool) (s' : St) (G : MV → Res → Prop)
    (hG : ∀ v' F, G v' F → v'.d0 = s'.kind ∧ v'.d1 = s'.place ∧ v'.d2 = s'.old ∧ v'.d3 = s'.new)
    (hp : ∀ (R0 : Res) (_ : Loc R0) (u : World), Own (Sep (BO b (mObj k { v.fresh with mem := .pointer (some ⟨qb, 0, none⟩) })) (Sep (LogR v.log l) (Sep (MX qb k.P k.T pb rb s pg ds dn L) R0))) w0 u → Calls Tryz.prog 56 #[.pointer (some ⟨b, 0, none⟩)] u fun e u' => e = .returned (.bool ok) ∧ ∃ v' F, Loc F ∧ G v' F ∧ Own (Sep (BO b (mObj k v')) (Sep F R0)) w0 u') :
    Calls Tryz.prog 20 #[.pointer (some ⟨b, 0, none⟩), .pointer (some ⟨qb, 0, none⟩)] w fun e w' => e = .returned s'.did ∧ ∃ v' F, Loc F ∧ G v' F ∧ Own (Sep (BO b (mObj k { v' with done := ok })) (Sep F R)) w0 w' := by
  have lM : Loc (Sep (LogR v.log l) (Sep (MX qb k.P k.T pb rb s pg ds dn L) R)) := Loc.logR.sep (Loc.mx.sep lR)
  obtain ⟨ZO, hZO⟩ : ∃ ZO, (Obj.cells #[.int .i64 0, .int .i64 0, .int .u64 0, .int .u64 0] 27 (0, 0)) = ZO := ⟨_, rfl⟩
  have lR0 : Loc (Sep (BO w.heap.size ZO) R) := Loc.bo.sep lR
  have O1 : Hid (Own (Sep (BO b (mObj k v)) (Sep (LogR v.log l) (Sep (MX qb k.P k.T pb rb s pg ds dn L) (Sep (BO w.heap.size ZO) R)))) w0 (w.alloc (.cells #[.int .i64 0, .int .i64 0, .int .u64 0, .int .u64 0] 27))) :=
    hide ((Own.boNew (m := w.heap.size) (o := ZO) (Loc.bo.sep lM) h (by rw [← hZO]; exact heap_alloc_at w _) (Nat.le_refl _) (grown1 w _)).cast (by ac_rfl))
  have HZO := hide hZO
  have HG := hide hG
  have HP := hide hp
  have HDN := hide hdn
  clear h hZO hG hp hdn
  go_enter Tryz.func20, Tryz.ntmps20
  go_upto_region 1 with fail
  generalize w.alloc (.cells #[.int .i64 0, .int .i64 0, .int .u64 0, .int .u64 0] 27) = w1 at *
  generalize w.heap.size = rb' at *
  have hb := Own.boAt O1.out
  have hq := O1.out.mhead (m := qb) (p := pb) (r := rb) (P := k.P) (T := k.T) (R := Sep (BO b (mObj k v)) (Sep (LogR v.log l) (Sep (S2 pb s) (Sep (RX rb pg ds dn L) (Sep (BO rb' ZO) R))))) (by unfold MX; ac_rfl)
  have c15 : w1.cell? ⟨b, 15, none⟩ = some (.bool false) := by have := HDN.out; rw [← this]; exact cell_of_heap hb
  have c1 : w1.cell? ⟨b, 1, none⟩ = some (.int .i64 k.P) := cell_of_heap hb
  have c2 : w1.cell? ⟨b, 2, none⟩ = some (.int .i64 k.T) := cell_of_heap hb
  have q2 : w1.cell? ⟨qb, 2, none⟩ = some (.int .i64 k.P) := cell_of_heap hq
  have q3 : w1.cell? ⟨qb, 3, none⟩ = some (.int .i64 k.T) := cell_of_heap hq
  clear hb hq
  go_quiet (fail)
  have O2 := hide (O1.out.below (Loc.bo.sep (Loc.logR.sep (Loc.mx.sep lR0))) ((Alike.drewN w1 nq).below _))
  clear O1 c15 c1 c2 q2 q3
  generalize w1.drewN nq = w2 at *
  go_wp2_with fail
  refine (m_fresh (Loc.logR.sep (Loc.mx.sep lR0)) O2.out).mono ?_
  rintro e w3 ⟨rfl, o3⟩
  have c18 : w3.cell? ⟨b, 18, none⟩ = some v.mem := cell_of_heap (Own.boAt o3)
  have f3 : ∀ o, w3.frozen? ⟨b, o, none⟩ = false := fun o => frozen_of_heap (Own.boAt o3)
  have O4 : Hid (Own (Sep (BO b (mObj k { v.fresh with mem := .pointer (some ⟨qb, 0, none⟩) })) (Sep (LogR v.log l) (Sep (MX qb k.P k.T pb rb s pg ds dn L) (Sep (BO rb' ZO) R)))) w0 (w3.setCell ⟨b, 18, none⟩ (.pointer (some ⟨qb, 0, none⟩)))) := hide (Own.boSet (Loc.logR.sep (Loc.mx.sep lR0)) o3 18 (.pointer (some ⟨qb, 0, none⟩)))
  clear o3 O2
  go_wp2_with fail
  clear c18 f3
  generalize w3.setCell ⟨b, 18, none⟩ (.pointer (some ⟨qb, 0, none⟩)) = w4 at *
  refine (HP.out _ lR0 _ O4.out).mono ?_
  rintro e w5 ⟨rfl, v', F, lF, hg, o5⟩
  have HGG := hide hg
  have c15 : w5.cell? ⟨b, 15, none⟩ = some (.bool v'.done) := cell_of_heap (Own.boAt o5)
  have f5 : ∀ o, w5.frozen? ⟨b, o, none⟩ = false := fun o => frozen_of_heap (Own.boAt o5)
  have O6 : Hid (Own (Sep (BO b (mObj k { v' with done := ok })) (Sep F (Sep (BO rb' ZO) R))) w0 (w5.setCell ⟨b, 15, none⟩ (.bool ok))) := hide (Own.boSet (lF.sep lR0) o5 15 (.bool ok))
  clear o5 O4 HP hg
  have hD := HG.out v' F HGG.out
  have d0 : (w5.setCell ⟨b, 15, none⟩ (.bool ok)).cell? ⟨b, 19, none⟩ = some (.int .i64 s'.kind) := by rw [← hD.1]; exact cell_of_heap (Own.boAt O6.out)
  have d1 : (w5.setCell ⟨b, 15, none⟩ (.bool ok)).cell? ⟨b, 20, none⟩ = some (.int .i64 s'.place) := by rw [← hD.2.1]; exact cell_of_heap (Own.boAt O6.out)
  have d2 : (w5.setCell ⟨b, 15, none⟩ (.bool ok)).cell? ⟨b, 21, none⟩ = some (.int .u64 (s'.old : Int)) := by rw [← hD.2.2.1]; exact cell_of_heap (Own.boAt O6.out)
  have d3 : (w5.setCell ⟨b, 15, none⟩ (.bool ok)).cell? ⟨b, 22, none⟩ = some (.int .u64 (s'.new : Int)) := by rw [← hD.2.2.2]; exact cell_of_heap (Own.boAt O6.out)
  have hR := O6.out.has (m := rb') (o := ZO) (R := Sep (BO b (mObj k { v' with done := ok })) (Sep F R)) (by ac_rfl)
  have hR' : (w5.setCell ⟨b, 15, none⟩ (.bool ok)).heap[rb']? = some (.cells #[.int .i64 0, .int .i64 0, .int .u64 0, .int .u64 0] 27 (0, 0)) := by rw [HZO.out]; exact hR
  have r0 : (w5.setCell ⟨b, 15, none⟩ (.bool ok)).cell? ⟨rb', 0, none⟩ = some (.int .i64 0) := cell_of_heap hR'
  have r1 : (w5.setCell ⟨b, 15, none⟩ (.bool ok)).cell? ⟨rb', 1, none⟩ = some (.int .i64 0) := cell_of_heap hR'
  have r2 : (w5.setCell ⟨b, 15, none⟩ (.bool ok)).cell? ⟨rb', 2, none⟩ = some (.int .u64 0) := cell_of_heap hR'
  have r3 : (w5.setCell ⟨b, 15, none⟩ (.bool ok)).cell? ⟨rb', 3, none⟩ = some (.int .u64 0) := cell_of_heap hR'
  have fr : ∀ o, (w5.setCell ⟨b, 15, none⟩ (.bool ok)).frozen? ⟨rb', o, none⟩ = false := fun o => frozen_of_heap hR'
  have O7 := hide (O6.out.cast (R' := Sep (BO rb' (.cells #[.int .i64 0, .int .i64 0, .int .u64 0, .int .u64 0] 27 (0, 0))) (Sep (BO b (mObj k { v' with done := ok })) (Sep F R))) (by rw [HZO.out]; ac_rfl))
  clear hR hR' hD
  go_wp2
  clear d0 d1 d2 d3 r0 r1 r2 r3 fr c15 f5
  refine Own.putDid (Q := bodyPost _ _ _ _ _) (Loc.bo.sep (lF.sep lR)) O7.out ?_
  intro W hW z0 z1 z2 z3
  refine bodyPost_ret (by simp [results, Tryz.results20, z0, z1, z2, z3, go_sem]; try rfl) rfl ?_
  exact ⟨rfl, v', F, lF, HGG.out, hW⟩
end
end Go.Proofs.YtafamfjgehnddaaGreat

namespace Go.Proofs.YtafamfjgehnddaaGreat
open Go Go.RowKit

theorem word_swA {P T : Int} (hm : Lay.may P T = true) (p : Nat) (hp : (p : Int) < P) : (if (Lay.page P T 12 (p : Int)).2 = true then (Lay.page P T 12 (p : Int)).1 else -1) = ((swA T p : Nat) : Int) := by rw [page_swA hm p hp, if_pos rfl]
theorem word_swM {P T : Int} (hm : Lay.may P T = true) (p : Nat) (hp : (p : Int) < P) : (if (Lay.page P T 13 (p : Int)).2 = true then (Lay.page P T 13 (p : Int)).1 else -1) = ((swM T p : Nat) : Int) := by rw [page_swM hm p hp, if_pos rfl]

section
variable {R : Res} {w0 w : World} {b : Nat} {k : MK} {v : MV}
theorem m_mark0 (h : Own (Sep (BO b (mObj k v)) R) w0 w) (hu : v.used = false) (kind page n mask : Int) :
    Calls Tryz.prog 133 #[.pointer (some ⟨b, 0, none⟩), .int .i64 kind, .int .i64 page, .int .i64 n, .int .u64 mask] w fun e w' => e = .returned (.tuple #[]) ∧ w' = w := by
  have hb := Own.boAt h
  have c17 : w.cell? ⟨b, 17, none⟩ = some (.bool false) := by rw [← hu]; exact cell_of_heap hb
  clear h hb hu
  go_enter Tryz.func133, Tryz.ntmps133
  go_wp2
  go_end0
  exact ⟨rfl, rfl⟩
end
section
variable {R : Res} {w0 w : World} {b : Nat} {k : MK} {v : MV} {qb : Nat} {pb rb : Nat} {s : St} {pgs : Nat} {ds : List Nat} {dn : Nat} {L : RL}

set_option maxRecDepth 100000 in
set_option maxHeartbeats 4000000 in
theorem rsweep0 (lR : Loc R) (hm9 : Lay.may k.P k.T = true) (pg : Nat) (hp : (pg : Int) < k.P) (hw : s.words.length = (Lay.words k.P k.T).toNat) (h : Own (Sep (BO b (mObj k v)) (Sep (LogR v.log []) (Sep (MX qb k.P k.T pb rb s pgs ds dn L) R))) w0 w) (hat : v.at_ = 0) (hu : v.used = false) (hmem : v.mem = .pointer (some ⟨qb, 0, none⟩)) (hmk9 : v.marks = .slice none 0 0) (x : Nat) (hx : s.words.getD (swM k.T pg) 0 = x) (s' : St) (hs : s.load (swM k.T pg) = s') :
    Calls Tryz.prog 91 #[.pointer (some ⟨b, 0, none⟩), .int .i64 (pg : Int)] w fun e w' => e = .returned (.tuple #[.int .u64 0, .bool false]) ∧ ∃ lv v', Left v v' lv s' ∧ Own (Sep (BO b (mObj k v')) (Sep (LogR lv ([] ++ [x])) (Sep (MX qb k.P k.T pb rb s' pgs ds dn L) R))) w0 w' := by
  have HA := hide (show swA k.T pg < s.words.length by rw [hw]; exact swA_lt hm9 pg hp)
  have HB := hide (show swM k.T pg < s.words.length by rw [hw]; exact swM_lt hm9 pg hp)
  have HWA := hide (word_swA hm9 pg hp)
  have HWM := hide (word_swM hm9 pg hp)
  have HAT := hide hat
  have HU := hide hu
  have HMEM := hide hmem
  have HMK := hide hmk9
  have HX := hide hx
  have HS := hide hs
  have O0 := hide h
  clear h hat hu hmem hmk9 hx hs hw hm9 hp
  go_enter Tryz.func91, Tryz.ntmps91
  go_wp2_with fail
  refine (m_word (Loc.logR.sep (Loc.mx.sep lR)) O0.out _ _ _ HWM.out).mono ?_
  rintro e wa0 ⟨rfl, oa0⟩
  have Oa0 := hide oa0
  clear oa0 O0
  go_wp2_with fail
  refine (m_load_now lR Oa0.out 0 HAT.out (by simp) (by omega) (by simp) HU.out HMEM.out _ HB.out x HX.out s' HS.out).mono ?_
  rintro e wb0 ⟨rfl, lv, ob0⟩
  have O1 := hide ob0
  clear ob0 Oa0
  go_wp2_with fail
  refine (m_word (Loc.logR.sep (Loc.mx.sep lR)) O1.out _ _ _ HWA.out).mono ?_
  rintro e wa1 ⟨rfl, oa1⟩
  have Oa1 := hide oa1
  clear oa1 O1
  go_wp2_with fail
  refine (m_load_no lR Oa1.out 1 (by show v.at_ + 1 = 1; rw [HAT.out]) (by simp) rfl _).mono ?_
  rintro e wb1 ⟨rfl, ob1⟩
  have O2 := hide ob1
  clear ob1 Oa1
  go_wp2
  go_ret2
  refine ⟨rfl, lv, _, ?_, O2.out⟩
  exact ⟨rfl, rfl, rfl, rfl, rfl, rfl⟩

set_option maxRecDepth 100000 in
set_option maxHeartbeats 4000000 in
theorem rsweep1 (lR : Loc R) (hm9 : Lay.may k.P k.T = true) (pg : Nat) (hp : (pg : Int) < k.P) (hw : s.words.length = (Lay.words k.P k.T).toNat) (mk : Nat) (hmk : mk < 18446744073709551616) (hbd : ∀ i, s.words.getD i 0 < 18446744073709551616) (h : Own (Sep (BO b (mObj k v)) (Sep (LogR v.log [mk]) (Sep (MX qb k.P k.T pb rb s pgs ds dn L) R))) w0 w) (hat : v.at_ = 0) (hu : v.used = false) (hmem : v.mem = .pointer (some ⟨qb, 0, none⟩)) (hmk9 : v.marks = .slice none 0 0) (x : Nat) (hx : s.words.getD (swA k.T pg) 0 = x) (s' : St) (hs : s.load (swA k.T pg) = s') :
    Calls Tryz.prog 91 #[.pointer (some ⟨b, 0, none⟩), .int .i64 (pg : Int)] w fun e w' => e = .returned (.tuple #[.int .u64 0, .bool false]) ∧ ∃ lv v', Left v v' lv s' ∧ Own (Sep (BO b (mObj k v')) (Sep (LogR lv ([mk] ++ [x])) (Sep (MX qb k.P k.T pb rb s' pgs ds dn L) R))) w0 w' := by
  have HA := hide (show swA k.T pg < s.words.length by rw [hw]; exact swA_lt hm9 pg hp)
  have HB := hide (show swM k.T pg < s.words.length by rw [hw]; exact swM_lt hm9 pg hp)
  have HWA := hide (word_swA hm9 pg hp)
  have HWM := hide (word_swM hm9 pg hp)
  have HAT := hide hat
  have HU := hide hu
  have HMEM := hide hmem
  have HMK := hide hmk9
  have HX := hide hx
  have HS := hide hs
  have O0 := hide h
  obtain ⟨Y, hY⟩ : ∃ Y, x &&& mk = Y := ⟨_, rfl⟩
  have hand : bits BinOp.and IntKind.u64 (x : Int) (mk : Int) = (Y : Int) := by rw [bits_and_u64_nat x mk (by rw [← hx]; exact hbd _) hmk, hY]
  clear hY hmk hbd
  clear h hat hu hmem hmk9 hx hs hw hm9 hp
  go_enter Tryz.func91, Tryz.ntmps91
  go_wp2_with fail
  refine (m_word (Loc.logR.sep (Loc.mx.sep lR)) O0.out _ _ _ HWM.out).mono ?_
  rintro e wa0 ⟨rfl, oa0⟩
  have Oa0 := hide oa0
  clear oa0 O0
  go_wp2_with fail
  refine (m_load_old lR Oa0.out 0 HAT.out (by simp) (by simp) mk rfl _).mono ?_
  rintro e wb0 ⟨rfl, ob0⟩
  have O1 := hide ob0
  clear ob0 Oa0
  go_wp2_with fail
  refine (m_word (Loc.logR.sep (Loc.mx.sep lR)) O1.out _ _ _ HWA.out).mono ?_
  rintro e wa1 ⟨rfl, oa1⟩
  have Oa1 := hide oa1
  clear oa1 O1
  go_wp2_with fail
  refine (m_load_now lR Oa1.out 1 rfl (by simp) (by omega) (by simp) HU.out HMEM.out _ HA.out x HX.out s' HS.out).mono ?_
  rintro e wb1 ⟨rfl, lv, ob1⟩
  have O2 := hide ob1
  clear ob1 Oa1
  go_wp2_with fail
  refine (m_word (Loc.logR.sep (Loc.mx.sep lR)) O2.out _ _ _ HWA.out).mono ?_
  rintro e wa2 ⟨rfl, oa2⟩
  have Oa2 := hide oa2
  clear oa2 O2
  go_wp2_with fail
  refine (m_put_no lR Oa2.out 2 rfl (by simp) rfl _ Y).mono ?_
  rintro e wb2 ⟨rfl, ob2⟩
  have O3 := hide ob2
  clear ob2 Oa2
  go_wp2
  go_ret2
  refine ⟨rfl, lv, _, ?_, O3.out⟩
  exact ⟨rfl, rfl, rfl, rfl, rfl, rfl⟩

set_option maxRecDepth 100000 in
set_option maxHeartbeats 4000000 in
theorem rsweep2 (lR : Loc R) (hm9 : Lay.may k.P k.T = true) (pg : Nat) (hp : (pg : Int) < k.P) (hw : s.words.length = (Lay.words k.P k.T).toNat) (mk al : Nat) (hmk : mk < 18446744073709551616) (hal : al < 18446744073709551616) (Y F : Nat) (hY : al &&& mk = Y) (hF : al &&& Plain.inv mk = F) (h : Own (Sep (BO b (mObj k v)) (Sep (LogR v.log [mk, al]) (Sep (MX qb k.P k.T pb rb s pgs ds dn L) R))) w0 w) (hat : v.at_ = 0) (hu : v.used = false) (hmem : v.mem = .pointer (some ⟨qb, 0, none⟩)) (hmk9 : v.marks = .slice none 0 0) (x : Nat) (hx : s.words.getD (swA k.T pg) 0 = x) (s' : St) (hs : s.put (swA k.T pg) Y = s') :
    Calls Tryz.prog 91 #[.pointer (some ⟨b, 0, none⟩), .int .i64 (pg : Int)] w fun e w' => e = .returned (.tuple #[.int .u64 (F : Int), .bool false]) ∧ ∃ lv v', Left v v' lv s' ∧ Own (Sep (BO b (mObj k v')) (Sep (LogR lv ([mk, al] ++ [x])) (Sep (MX qb k.P k.T pb rb s' pgs ds dn L) R))) w0 w' := by
  have HA := hide (show swA k.T pg < s.words.length by rw [hw]; exact swA_lt hm9 pg hp)
  have HB := hide (show swM k.T pg < s.words.length by rw [hw]; exact swM_lt hm9 pg hp)
  have HWA := hide (word_swA hm9 pg hp)
  have HWM := hide (word_swM hm9 pg hp)
  have HAT := hide hat
  have HU := hide hu
  have HMEM := hide hmem
  have HMK := hide hmk9
  have HX := hide hx
  have HS := hide hs
  have O0 := hide h
  have hand : bits BinOp.and IntKind.u64 (al : Int) (mk : Int) = (Y : Int) := by rw [bits_and_u64_nat al mk hal hmk, hY]
  have HYB := hide (show Y < 18446744073709551616 by rw [← hY]; exact Nat.lt_of_le_of_lt Nat.and_le_left hal)
  have hnot : bits BinOp.andNot IntKind.u64 (al : Int) (mk : Int) = (F : Int) := by rw [bits_andNot_u64 al mk hal hmk, hF]
  clear hY hF hmk hal
  clear h hat hu hmem hmk9 hx hs hw hm9 hp
  go_enter Tryz.func91, Tryz.ntmps91
  go_wp2_with fail
  refine (m_word (Loc.logR.sep (Loc.mx.sep lR)) O0.out _ _ _ HWM.out).mono ?_
  rintro e wa0 ⟨rfl, oa0⟩
  have Oa0 := hide oa0
  clear oa0 O0
  go_wp2_with fail
  refine (m_load_old lR Oa0.out 0 HAT.out (by simp) (by simp) mk rfl _).mono ?_
  rintro e wb0 ⟨rfl, ob0⟩
  have O1 := hide ob0
  clear ob0 Oa0
  go_wp2_with fail
  refine (m_word (Loc.logR.sep (Loc.mx.sep lR)) O1.out _ _ _ HWA.out).mono ?_
  rintro e wa1 ⟨rfl, oa1⟩
  have Oa1 := hide oa1
  clear oa1 O1
  go_wp2_with fail
  refine (m_load_old lR Oa1.out 1 rfl (by simp) (by simp) al rfl _).mono ?_
  rintro e wb1 ⟨rfl, ob1⟩
  have O2 := hide ob1
  clear ob1 Oa1
  go_wp2_with fail
  refine (m_word (Loc.logR.sep (Loc.mx.sep lR)) O2.out _ _ _ HWA.out).mono ?_
  rintro e wa2 ⟨rfl, oa2⟩
  have Oa2 := hide oa2
  clear oa2 O2
  go_wp2_with fail
  refine (m_put_now lR Oa2.out 2 rfl (by simp) (by omega) (by simp) HU.out HMEM.out _ HA.out Y HYB.out x HX.out s' HS.out).mono ?_
  rintro e wb2 ⟨rfl, lv, ob2⟩
  have O3 := hide ob2
  clear ob2 Oa2
  go_wp2_with fail
  refine (m_mark (Loc.logR.sep (Loc.mx.sep lR)) O3.out rfl HMK.out (by show 2 + 1 < 4611686018427387904; omega) _ _ _ F).mono ?_
  rintro e wm ⟨rfl, mv, om⟩
  have OM := hide om
  clear om O3
  go_wp2_with fail
  refine (m_word (Loc.logR.sep (Loc.mx.sep lR)) OM.out _ _ _ HWM.out).mono ?_
  rintro e wa3 ⟨rfl, oa3⟩
  have Oa3 := hide oa3
  clear oa3 OM
  go_wp2_with fail
  refine (m_put_no lR Oa3.out 3 rfl (by simp) rfl _ 0).mono ?_
  rintro e wb3 ⟨rfl, ob3⟩
  have O4 := hide ob3
  clear ob3 Oa3
  go_wp2
  go_ret2
  refine ⟨rfl, lv, _, ?_, O4.out⟩
  exact ⟨rfl, rfl, rfl, rfl, rfl, rfl⟩

set_option maxRecDepth 100000 in
set_option maxHeartbeats 4000000 in
theorem rsweep3 (lR : Loc R) (hm9 : Lay.may k.P k.T = true) (pg : Nat) (hp : (pg : Int) < k.P) (hw : s.words.length = (Lay.words k.P k.T).toNat) (mk al z : Nat) (hmk : mk < 18446744073709551616) (hal : al < 18446744073709551616) (F : Nat) (hF : al &&& Plain.inv mk = F) (h : Own (Sep (BO b (mObj k v)) (Sep (LogR v.log [mk, al, z]) (Sep (MX qb k.P k.T pb rb s pgs ds dn L) R))) w0 w) (hat : v.at_ = 0) (hu : v.used = false) (hmem : v.mem = .pointer (some ⟨qb, 0, none⟩)) (hmk9 : v.marks = .slice none 0 0) (x : Nat) (hx : s.words.getD (swM k.T pg) 0 = x) (s' : St) (hs : s.put (swM k.T pg) 0 = s') :
    Calls Tryz.prog 91 #[.pointer (some ⟨b, 0, none⟩), .int .i64 (pg : Int)] w fun e w' => e = .returned (.tuple #[.int .u64 (F : Int), .bool true]) ∧ ∃ lv v', Left v v' lv s' ∧ Own (Sep (BO b (mObj k v')) (Sep (LogR lv ([mk, al, z] ++ [x])) (Sep (MX qb k.P k.T pb rb s' pgs ds dn L) R))) w0 w' := by
  have HA := hide (show swA k.T pg < s.words.length by rw [hw]; exact swA_lt hm9 pg hp)
  have HB := hide (show swM k.T pg < s.words.length by rw [hw]; exact swM_lt hm9 pg hp)
  have HWA := hide (word_swA hm9 pg hp)
  have HWM := hide (word_swM hm9 pg hp)
  have HAT := hide hat
  have HU := hide hu
  have HMEM := hide hmem
  have HMK := hide hmk9
  have HX := hide hx
  have HS := hide hs
  have O0 := hide h
  obtain ⟨Y, hY⟩ : ∃ Y, al &&& mk = Y := ⟨_, rfl⟩
  have hand : bits BinOp.and IntKind.u64 (al : Int) (mk : Int) = (Y : Int) := by rw [bits_and_u64_nat al mk hal hmk, hY]
  have hnot : bits BinOp.andNot IntKind.u64 (al : Int) (mk : Int) = (F : Int) := by rw [bits_andNot_u64 al mk hal hmk, hF]
  clear hY hF hmk hal
  clear h hat hu hmem hmk9 hx hs hw hm9 hp
  go_enter Tryz.func91, Tryz.ntmps91
  go_wp2_with fail
  refine (m_word (Loc.logR.sep (Loc.mx.sep lR)) O0.out _ _ _ HWM.out).mono ?_
  rintro e wa0 ⟨rfl, oa0⟩
  have Oa0 := hide oa0
  clear oa0 O0
  go_wp2_with fail
  refine (m_load_old lR Oa0.out 0 HAT.out (by simp) (by simp) mk rfl _).mono ?_
  rintro e wb0 ⟨rfl, ob0⟩
  have O1 := hide ob0
  clear ob0 Oa0
  go_wp2_with fail
  refine (m_word (Loc.logR.sep (Loc.mx.sep lR)) O1.out _ _ _ HWA.out).mono ?_
  rintro e wa1 ⟨rfl, oa1⟩
  have Oa1 := hide oa1
  clear oa1 O1
  go_wp2_with fail
  refine (m_load_old lR Oa1.out 1 rfl (by simp) (by simp) al rfl _).mono ?_
  rintro e wb1 ⟨rfl, ob1⟩
  have O2 := hide ob1
  clear ob1 Oa1
  go_wp2_with fail
  refine (m_word (Loc.logR.sep (Loc.mx.sep lR)) O2.out _ _ _ HWA.out).mono ?_
  rintro e wa2 ⟨rfl, oa2⟩
  have Oa2 := hide oa2
  clear oa2 O2
  go_wp2_with fail
  refine (m_put_old lR Oa2.out 2 rfl (by simp) (by simp) z rfl _ Y).mono ?_
  rintro e wb2 ⟨rfl, ob2⟩
  have O3 := hide ob2
  clear ob2 Oa2
  go_wp2_with fail
  refine (m_mark0 O3.out HU.out _ _ _ _).mono ?_
  rintro e wm ⟨rfl, rfl⟩
  go_wp2_with fail
  refine (m_word (Loc.logR.sep (Loc.mx.sep lR)) O3.out _ _ _ HWM.out).mono ?_
  rintro e wa3 ⟨rfl, oa3⟩
  have Oa3 := hide oa3
  clear oa3 O3
  go_wp2_with fail
  refine (m_put_now lR Oa3.out 3 rfl (by simp) (by omega) (by simp) HU.out HMEM.out _ HB.out 0 (by omega) x HX.out s' HS.out).mono ?_
  rintro e wb3 ⟨rfl, lv, ob3⟩
  have O4 := hide ob3
  clear ob3 Oa3
  go_wp2
  go_ret2
  refine ⟨rfl, lv, _, ?_, O4.out⟩
  exact ⟨rfl, rfl, rfl, rfl, rfl, rfl⟩

set_option maxRecDepth 100000 in
set_option maxHeartbeats 1000000 in
theorem body_sweep (h : Own (Sep (BO b (mObj k v)) R) w0 w) (hwh : k.what = 7) (fr : Nat) (ok : Bool) (G : MV → Res → Prop) (R0 : Res) (l0 : Loc R0)
    (hp : ∀ u, Own (Sep (BO b (mObj k v)) R) w0 u → Calls Tryz.prog 91 #[.pointer (some ⟨b, 0, none⟩), .int .i64 k.page] u fun e u' => e = .returned (.tuple #[.int .u64 (fr : Int), .bool ok]) ∧ ∃ v' F, Loc F ∧ G v' F ∧ Own (Sep (BO b (mObj k v')) (Sep F R0)) w0 u') :
    Calls Tryz.prog 56 #[.pointer (some ⟨b, 0, none⟩)] w fun e w' => e = .returned (.bool ok) ∧ ∃ v' F, Loc F ∧ G v' F ∧ Own (Sep (BO b (mObj k (if ok = true then { v' with freed := fr } else { { v' with freed := fr } with got := -1, code := 2, live := .slice none 0 0 }))) (Sep F R0)) w0 w' := by
  have hb := Own.boAt h
  have c0 : w.cell? ⟨b, 0, none⟩ = some (.int .i64 7) := by rw [← hwh]; exact cell_of_heap hb
  have c4 : w.cell? ⟨b, 4, none⟩ = some (.int .i64 k.page) := cell_of_heap hb
  have HP := hide (hp _ h)
  clear h hb hp hwh
  go_enter Tryz.func56, Tryz.ntmps56
  go_wp2_with fail
  refine HP.out.mono ?_
  rintro e w1 ⟨rfl, v', F, lF, hG, o1⟩
  have HG := hide hG
  have c27 : w1.cell? ⟨b, 27, none⟩ = some (.int .u64 (v'.freed : Int)) := cell_of_heap (Own.boAt o1)
  have f27 : ∀ o, w1.frozen? ⟨b, o, none⟩ = false := fun o => frozen_of_heap (Own.boAt o1)
  have O2 : Hid (Own (Sep (BO b (mObj k { v' with freed := fr })) (Sep F R0)) w0 (w1.setCell ⟨b, 27, none⟩ (.int .u64 (fr : Int)))) := hide (Own.boSet (lF.sep l0) o1 27 (.int .u64 (fr : Int)))
  clear o1 hG HP c0 c4
  cases ok with
  | true =>
    go_wp2
    go_ret
    exact ⟨rfl, v', F, lF, HG.out, O2.out⟩
  | false =>
    go_wp2_with fail
    refine (m_idle (lF.sep l0) O2.out).mono ?_
    rintro e w2 ⟨rfl, o2⟩
    have O3 := hide o2
    go_wp2
    go_ret
    exact ⟨rfl, v', F, lF, HG.out, O3.out⟩

theorem len_two {l : List Nat} (h : l.length = 2) : ∃ x y, l = [x, y] := by
  match l, h with
  | [x, y], _ => exact ⟨x, y, rfl⟩
theorem len_three {l : List Nat} (h : l.length = 3) : ∃ x y z, l = [x, y, z] := by
  match l, h with
  | [x, y, z], _ => exact ⟨x, y, z, rfl⟩
/-- What was told of a sweep's steps. -/
def SwLog (d mk al : Nat) (l : List Nat) : Prop := l.length = d ∧ (1 ≤ d → l.getD 0 0 = mk) ∧ (2 ≤ d → l.getD 1 0 = al)

set_option maxRecDepth 100000 in
set_option maxHeartbeats 2000000 in
/-- A step of the document's sweep. -/
theorem rstepSweep {l : List Nat} (lR : Loc R) (hm9 : Lay.may k.P k.T = true) (hwh : k.what = 7) (pg : Nat) (hpg : k.page = (pg : Int)) (hp : (pg : Int) < k.P) (hw : s.words.length = (Lay.words k.P k.T).toNat) (d mk al : Nat) (hd : d < 4) (hmk : mk < 18446744073709551616) (hal : al < 18446744073709551616) (hl : SwLog d mk al l) (hbd : ∀ i, s.words.getD i 0 < 18446744073709551616) (h : Own (Sep (BO b (mObj k v)) (Sep (LogR v.log l) (Sep (MX qb k.P k.T pb rb s pgs ds dn L) R))) w0 w) (hdn : v.done = false) (ok : Bool) (hok : decide (d = 3) = ok) :
    Calls Tryz.prog 20 #[.pointer (some ⟨b, 0, none⟩), .pointer (some ⟨qb, 0, none⟩)] w fun e w' => e = .returned (swS k.T pg d mk al s).did ∧ ∃ v' l', v'.done = ok ∧ v'.freed = swFreed (d + 1) (swMk k.T pg d mk s.words) (swAl k.T pg d al s.words) ∧ SwLog (d + 1) (swMk k.T pg d mk s.words) (swAl k.T pg d al s.words) l' ∧ Own (Sep (BO b (mObj k v')) (Sep (LogR v'.log l') (Sep (MX qb k.P k.T pb rb (swS k.T pg d mk al s) pgs ds dn L) R))) w0 w' := by
  obtain ⟨s', hs⟩ : ∃ s', swS k.T pg d mk al s = s' := ⟨_, rfl⟩
  obtain ⟨fr, hfr⟩ : ∃ fr, swFreed (d + 1) (swMk k.T pg d mk s.words) (swAl k.T pg d al s.words) = fr := ⟨_, rfl⟩
  obtain ⟨x, hx⟩ : ∃ x, s.words.getD (if d = 1 ∨ d = 2 then swA k.T pg else swM k.T pg) 0 = x := ⟨_, rfl⟩
  have hl' : SwLog (d + 1) (swMk k.T pg d mk s.words) (swAl k.T pg d al s.words) (l ++ [x]) := by
    obtain ⟨h1, h2, h3⟩ := hl
    unfold swMk swAl
    rcases (show d = 0 ∨ d = 1 ∨ d = 2 ∨ d = 3 by omega) with rfl | rfl | rfl | rfl
    · have : l = [] := List.length_eq_zero_iff.1 h1
      subst this
      rw [if_neg (by omega)] at hx
      exact ⟨rfl, fun _ => by rw [if_pos rfl, hx]; rfl, fun h => absurd h (by omega)⟩
    · obtain ⟨y, rfl⟩ := List.length_eq_one_iff.1 h1
      rw [if_pos (.inl rfl)] at hx
      exact ⟨rfl, fun _ => by rw [if_neg (by omega)]; exact h2 (by omega), fun _ => by rw [if_pos rfl, hx]; rfl⟩
    · obtain ⟨y, z, rfl⟩ := len_two h1
      exact ⟨rfl, fun _ => by rw [if_neg (by omega)]; exact h2 (by omega), fun _ => by rw [if_neg (by omega)]; exact h3 (by omega)⟩
    · obtain ⟨y, z, u, rfl⟩ := len_three h1
      exact ⟨rfl, fun _ => by rw [if_neg (by omega)]; exact h2 (by omega), fun _ => by rw [if_neg (by omega)]; exact h3 (by omega)⟩
  rw [hs, hfr]
  have key : ∀ (R0 : Res) (_ : Loc R0) (v1 : MV) (u : World), v1.log = v.log → v1.at_ = 0 → v1.used = false → v1.mem = .pointer (some ⟨qb, 0, none⟩) → v1.marks = .slice none 0 0 → Own (Sep (BO b (mObj k v1)) (Sep (LogR v1.log l) (Sep (MX qb k.P k.T pb rb s pgs ds dn L) R0))) w0 u →
      Calls Tryz.prog 91 #[.pointer (some ⟨b, 0, none⟩), .int .i64 (pg : Int)] u fun e u' => e = .returned (.tuple #[.int .u64 (fr : Int), .bool ok]) ∧ ∃ lv v', Left v1 v' lv s' ∧ Own (Sep (BO b (mObj k v')) (Sep (LogR lv (l ++ [x])) (Sep (MX qb k.P k.T pb rb s' pgs ds dn L) R0))) w0 u' := by
    intro R0 l0 v1 u _ ha hu hme hmr ho
    obtain ⟨h1, h2, h3⟩ := hl
    unfold swS at hs
    unfold swFreed swMk swAl at hfr
    rcases (show d = 0 ∨ d = 1 ∨ d = 2 ∨ d = 3 by omega) with rfl | rfl | rfl | rfl
    · have : l = [] := List.length_eq_zero_iff.1 h1
      subst this
      rw [if_pos rfl] at hs
      rw [if_neg (by omega)] at hx
      rw [if_pos (by omega)] at hfr
      subst hfr
      subst hok
      exact rsweep0 l0 hm9 pg hp hw ho ha hu hme hmr x hx s' hs
    · obtain ⟨y, rfl⟩ := List.length_eq_one_iff.1 h1
      rw [if_neg (by omega), if_pos rfl] at hs
      rw [if_pos (.inl rfl)] at hx
      rw [if_pos (by omega)] at hfr
      subst hfr
      subst hok
      obtain rfl : y = mk := h2 (by omega)
      exact rsweep1 l0 hm9 pg hp hw y hmk hbd ho ha hu hme hmr x hx s' hs
    · obtain ⟨y, z, rfl⟩ := len_two h1
      rw [if_neg (by omega), if_neg (by omega), if_pos rfl] at hs
      rw [if_pos (.inr rfl)] at hx
      rw [if_neg (by omega), if_neg (by omega), if_neg (by omega)] at hfr
      subst hok
      obtain rfl : y = mk := h2 (by omega)
      obtain rfl : z = al := h3 (by omega)
      exact rsweep2 l0 hm9 pg hp hw y z hmk hal _ _ rfl hfr ho ha hu hme hmr x hx s' hs
    · obtain ⟨y, z, u9, rfl⟩ := len_three h1
      rw [if_neg (by omega), if_neg (by omega), if_neg (by omega)] at hs
      rw [if_neg (by omega)] at hx
      rw [if_neg (by omega), if_neg (by omega), if_neg (by omega)] at hfr
      subst hok
      obtain rfl : y = mk := h2 (by omega)
      obtain rfl : z = al := h3 (by omega)
      exact rsweep3 l0 hm9 pg hp hw y z u9 hmk hal _ hfr ho ha hu hme hmr x hx s' hs
  refine (m_step lR h hdn ok s' (fun v' F => (v'.d0 = s'.kind ∧ v'.d1 = s'.place ∧ v'.d2 = s'.old ∧ v'.d3 = s'.new) ∧ v'.freed = fr ∧ F = Sep (LogR v'.log (l ++ [x])) (MX qb k.P k.T pb rb s' pgs ds dn L)) (fun v' F hh => hh.1) (fun R0 l0 u hu => ?_)).mono ?_
  · refine (body_sweep hu hwh fr ok (fun v' F => (v'.d0 = s'.kind ∧ v'.d1 = s'.place ∧ v'.d2 = s'.old ∧ v'.d3 = s'.new) ∧ F = Sep (LogR v'.log (l ++ [x])) (MX qb k.P k.T pb rb s' pgs ds dn L)) R0 l0 (fun u1 hu1 => ?_)).mono ?_
    · rw [hpg]
      refine (key R0 l0 { v.fresh with mem := .pointer (some ⟨qb, 0, none⟩) } u1 rfl rfl rfl rfl rfl hu1).mono ?_
      rintro e u' ⟨he, lv, v', hL, ho⟩
      exact ⟨he, v', _, Loc.logR.sep Loc.mx, ⟨⟨hL.d0, hL.d1, hL.d2, hL.d3⟩, rfl⟩, ho.cast (by rw [hL.log]; ac_rfl)⟩
    · rintro e u' ⟨he, v', F, lF, ⟨hdd, hF⟩, ho⟩
      refine ⟨he, _, F, lF, ⟨?_, ?_, ?_⟩, ho⟩
      · cases ok <;> exact hdd
      · cases ok <;> rfl
      · rw [hF]; cases ok <;> rfl
  · rintro e w' ⟨he, v', F, lF, ⟨hdd, hf, hF⟩, ho⟩
    rw [hF] at ho
    exact ⟨he, { v' with done := ok }, l ++ [x], rfl, hf, hl', ho.cast (by ac_rfl)⟩
end
end Go.Proofs.YtafamfjgehnddaaGreat

namespace Go.Proofs.YtafamfjgehnddaaGreat
open Go Go.RowKit

section
variable {R : Res} {w0 w : World} {k : MK} {v : MV}
set_option maxRecDepth 100000 in
set_option maxHeartbeats 1000000 in
theorem m_new (lR : Loc R) (h : Own R w0 w) :
    Calls Tryz.prog 18 #[.agg (mCells k v)] w fun e w' => ∃ b, e = .returned (.pointer (some ⟨b, 0, none⟩)) ∧ Own (Sep (BO b (mObj k v.fresh)) R) w0 w' := by
  have O1 : Hid (Own (Sep (BO w.heap.size (mObj k v)) R) w0 (w.alloc (mObj k v))) := hide (Own.boNew lR h (heap_alloc_at w _) (Nat.le_refl _) (grown1 w _))
  clear h
  go_enter Tryz.func18, Tryz.ntmps18
  go_wp2_with fail
  refine (m_fresh lR O1.out).mono ?_
  rintro e w1 ⟨rfl, o1⟩
  have O2 := hide o1
  clear O1 o1
  go_wp2
  go_ret
  exact ⟨_, rfl, O2.out⟩
end
end Go.Proofs.YtafamfjgehnddaaGreat

namespace Go.Proofs.YtafamfjgehnddaaGreat
open Go.RowKit

theorem Sep.nought (R : Res) : Sep Nought R = R := by
  funext w G
  apply propext
  constructor
  · rintro ⟨G1, G2, a, b, _, d⟩
    have e : G = G2 := funext fun x => propext ⟨fun h => ((d x).1 h).elim (fun q => absurd q (a x)) id, fun h => (d x).2 (.inr h)⟩
    rw [e]; exact b
  · intro h
    exact ⟨fun _ => False, G, fun _ h => h, h, fun _ h => h.elim, fun x => ⟨.inr, fun q => q.elim (fun q => q.elim) id⟩⟩
theorem Sep.nought' (R : Res) : Sep R Nought = R := (Sep.comm' _ _).trans (Sep.nought R)

/-- The things of all numbers below n. -/
def Many (f : Nat → Res) : Nat → Res
  | 0 => Nought
  | n + 1 => Sep (f n) (Many f n)
/-- One is turned. -/
def upd {α : Type} (f : Nat → α) (t : Nat) (x : α) : Nat → α := fun j => if j = t then x else f j
theorem upd_at {α : Type} (f : Nat → α) (t : Nat) (x : α) : upd f t x t = x := if_pos rfl
theorem upd_ne {α : Type} (f : Nat → α) {t j : Nat} (x : α) (h : j ≠ t) : upd f t x j = f j := if_neg h
theorem upd_upd {α : Type} (f : Nat → α) (t : Nat) (x y : α) : upd (upd f t x) t y = upd f t y := by
  funext j; unfold upd; split <;> rfl
theorem upd_id {α : Type} (f : Nat → α) (t : Nat) : upd f t (f t) = f := by
  funext j; unfold upd; split
  · rename_i h; rw [h]
  · rfl
theorem Loc.many {f : Nat → Res} (h : ∀ j, Loc (f j)) : ∀ n, Loc (Many f n)
  | 0 => Loc.nought
  | n + 1 => (h n).sep (Loc.many h n)
theorem Many.congr {f g : Nat → Res} : ∀ n, (∀ j, j < n → f j = g j) → Many f n = Many g n
  | 0, _ => rfl
  | n + 1, h => by
    show Sep (f n) (Many f n) = Sep (g n) (Many g n)
    rw [h n (by omega), Many.congr n (fun j hj => h j (by omega))]
theorem Many.at (f : Nat → Res) (t : Nat) : ∀ n, t < n → Many f n = Sep (f t) (Many (upd f t Nought) n)
  | n + 1, h => by
    show Sep (f n) (Many f n) = Sep (f t) (Sep (upd f t Nought n) (Many (upd f t Nought) n))
    by_cases e : t = n
    · subst e
      rw [upd_at, Sep.nought]
      exact congrArg (Sep (f t)) (Many.congr t (fun j hj => (upd_ne f Nought (show j ≠ t by omega)).symm))
    · rw [upd_ne f Nought (fun q => e q.symm), Many.at f t n (by omega)]
      ac_rfl
theorem Many.put (f : Nat → Res) (t : Nat) (r : Res) (n : Nat) (h : t < n) : Many (upd f t r) n = Sep r (Many (upd f t Nought) n) := by
  rw [Many.at (upd f t r) t n h, upd_at, upd_upd]
/-- The one of number t comes forth. -/
theorem Many.out (f : Nat → Res) (t : Nat) (n : Nat) (h : t < n) (R : Res) : Sep (Many f n) R = Sep (f t) (Sep (Many (upd f t Nought) n) R) := by
  rw [Many.at f t n h]; ac_rfl
theorem Many.back (f : Nat → Res) (t : Nat) (r : Res) (n : Nat) (h : t < n) (R : Res) : Sep r (Sep (Many (upd f t Nought) n) R) = Sep (Many (upd f t r) n) R := by
  rw [Many.put f t r n h]; ac_rfl
theorem Loc.rest {f : Nat → Res} (h : ∀ j, Loc (f j)) (t n : Nat) : Loc (Many (upd f t Nought) n) :=
  Loc.many (fun j => by unfold upd; split; exact Loc.nought; exact h j) n
theorem Many.none : ∀ n, Many (fun _ => Nought) n = Nought
  | 0 => rfl
  | n + 1 => by show Sep Nought (Many _ n) = Nought; rw [Sep.nought, Many.none n]

/-- The cells g 0 .. g (n - 1). -/
def rowN (n : Nat) (g : Nat → Value) : Array Value := ((List.range n).map g).toArray
theorem rowN_get {n t : Nat} (g : Nat → Value) (h : t < n) : (rowN n g)[t]? = some (g t) := by
  simp [rowN, h]
theorem rowN_set (n t : Nat) (g : Nat → Value) (v : Value) : (rowN n g).setIfInBounds t v = rowN n (upd g t v) := by
  apply Array.ext_getElem?
  intro j
  rw [Array.getElem?_setIfInBounds]
  simp only [rowN, List.size_toArray, List.length_map, List.length_range, List.getElem?_toArray, List.getElem?_map]
  by_cases e : t = j
  · subst e
    by_cases h : t < n <;> simp [h, upd_at]
  · rw [if_neg e]
    by_cases h : j < n
    · simp [h, upd_ne g v (fun q => e q.symm)]
    · rw [List.getElem?_eq_none (by simp; omega)]; rfl
theorem rowN_const (n : Nat) (v : Value) : rowN n (fun _ => v) = Array.replicate n v := by
  apply Array.ext_getElem?
  intro j
  simp only [rowN, List.getElem?_toArray, List.getElem?_map, Array.getElem?_replicate]
  by_cases h : j < n <;> simp [h]
theorem rowN_congr {n : Nat} {g g' : Nat → Value} (h : ∀ j, j < n → g j = g' j) : rowN n g = rowN n g' := by
  unfold rowN
  congr 1
  apply List.map_congr_left
  intro j hj
  exact h j (List.mem_range.1 hj)
end Go.Proofs.YtafamfjgehnddaaGreat

namespace Go.Proofs.YtafamfjgehnddaaGreat
open Go Go.RowKit

/-- The document's arena: its layout, its words. -/
structure MBt (a : Nat) (P T : Int) (p r b : Nat) (ws : List Nat) (w : World) : Prop where
  hd : w.heap[a]? = some (MObj p r P T)
  st : ∃ s, StoreAt 97 w p b s ∧ s.words = ws
theorem MBt.below {a : Nat} {P T : Int} {p r b : Nat} {ws : List Nat} {w w' : World} (k : MBt a P T p r b ws w) (bl : Below w.heap.size w w') : MBt a P T p r b ws w' := by
  obtain ⟨s, h, e⟩ := k.st
  exact ⟨(bl.block _ (lt_of_heap k.hd)).trans k.hd, s, h.below bl, e⟩
theorem MBt.of {R : Res} {w0 w : World} {a : Nat} {P T : Int} {p r : Nat} {s : St} {pg : Nat} {ds : List Nat} {dn : Nat} {L : RL} (h : Own (Sep (MX a P T p r s pg ds dn L) R) w0 w) : ∃ b, MBt a P T p r b s.words w := by
  obtain ⟨G, ⟨G1, G2, ⟨G3, G4, ⟨h1, _⟩, ⟨G5, G6, ⟨b, h2, _⟩, _⟩, _⟩, _⟩, _⟩ := h
  exact ⟨b, h1, s, h2, rfl⟩

set_option maxRecDepth 100000 in
set_option maxHeartbeats 4000000 in
/-- A put of both sides. -/
theorem plPutC {R : Res} {w0 w : World} (lR : Loc R) {q p r a p' r' pg dn : Nat} {P T : Int} {s : St} {ds : List Nat} {L : RL}
    (h : Own (Sep (AX q P T p r s pg ds dn L) (Sep (MX a P T p' r' s pg ds dn L) R)) w0 w) (i : Nat) (hi : i < s.words.length) (hl : s.words.length ≤ 65536) (v : Nat) (hv : v < 18446744073709551616) (s' : St) (hs : s.put i v = s') :
    Calls Tryz.prog 15 #[.pointer (some ⟨q, 0, none⟩), .pointer (some ⟨a, 0, none⟩), .int .i64 (i : Int), .int .u64 (v : Int)] w fun e w' => e = .returned (.bool true) ∧ Own (Sep (AX q P T p r s' pg ds dn L) (Sep (MX a P T p' r' s' pg ds dn L) R)) w0 w' := by
  obtain ⟨b, hM⟩ := MBt.of (h.cast (R' := Sep (MX a P T p' r' s pg ds dn L) (Sep (AX q P T p r s pg ds dn L) R)) (by ac_rfl))
  have O1 := hide h
  have HI := hide hi
  have HV := hide hv
  have HS := hide hs
  obtain ⟨n, hn⟩ : ∃ n, s.words.length = n := ⟨_, rfl⟩
  have d0 : decide ((i : Int) < 0) = false := by simp
  have d1 : decide ((i : Int) ≥ (n : Int)) = false := by simp; omega
  have d1' : decide ((n : Int) ≤ (i : Int)) = false := by simp; omega
  have d2 : decide (n ≤ i) = false := by simp; omega
  have c0 : w.cell? ⟨a, 0, none⟩ = some (.pointer (some ⟨p', 0, none⟩)) := cell_of_heap hM.hd
  have c1 : w.cell? ⟨p', 0, none⟩ = some (.slice (some ⟨b, 0, none⟩) n n) := by
    obtain ⟨t, hS, ht⟩ := hM.st
    have h1 : w.cell? ⟨p', 0, none⟩ = some (.slice (some ⟨b, 0, none⟩) t.words.length t.words.length) := cell_of_heap hS.head
    rw [ht, hn] at h1
    exact h1
  have HMC : Hid (∀ u : World, (∃ b', MBt a P T p' r' b' s.words u) → u.cell? ⟨a, 0, none⟩ = some (.pointer (some ⟨p', 0, none⟩))) := hide (fun u ⟨_, hu⟩ => cell_of_heap hu.hd)
  have hn9 : n ≤ 65536 := by omega
  clear h hM hv hs hn hl
  go_enter Tryz.func15, Tryz.ntmps15
  go_wp2
  clear c0 c1 d0 d1 d1' d2
  have lM : Loc (Sep (MX a P T p' r' s pg ds dn L) R) := Loc.mx.sep lR
  have O2 := hide (O1.out.below (Loc.ax.sep lM) ((Alike.drewN w 1).below _))
  clear O1
  have CC : ∀ (u : World) (t t' : St), Own (Sep (AX q P T p r t pg ds dn L) (Sep (MX a P T p' r' t' pg ds dn L) R)) w0 u → Cel a 0 (.pointer (some ⟨p', 0, none⟩)) u := fun u t t' hu => by
    obtain ⟨b', hM⟩ := MBt.of (hu.cast (R' := Sep (MX a P T p' r' t' pg ds dn L) (Sep (AX q P T p r t pg ds dn L) R)) (by ac_rfl))
    exact cell_of_heap hM.hd
  have HCC := hide CC
  have J2 : Hid (Cel a 0 (.pointer (some ⟨p', 0, none⟩)) w.drew) := hide (CC _ _ _ O2.out)
  have hne : Nonempty (Mem (Cel a 0 (.pointer (some ⟨p', 0, none⟩)))) := ⟨⟨_, J2.out⟩⟩
  have u0 : ∀ u : Mem (Cel a 0 (.pointer (some ⟨p', 0, none⟩))), u.w'.cell? ⟨a, 0, none⟩ = some (.pointer (some ⟨p', 0, none⟩)) := fun u => u.h
  clear CC HMC
  refine region_start (J := Cel a 0 (.pointer (some ⟨p', 0, none⟩))) (by kernel_rfl) ?_
  refine stretch (fuel := 5) (by kernel_rfl) (fun _ _ _ _ _ h => h) J2.out [0, 2, 3, 5, 6, 7, 8, 9, 10] (by kernel_rfl) ?_
  simp only [List.filterMap_cons, List.filterMap_nil, List.getElem?_toArray, List.getElem?_cons_zero, List.getElem?_cons_succ]
  show wpQuiet _ _ _ _ [_, _, _, _, _, _, _, _, _] _
  repeat (go_big_quiet_step (fail))
  refine wpQuiet_nil ?_
  refine wpAnyJ_writer (i := 1) rfl (by kernel_rfl) (fun K' hK => ?_)
  go_simp
  refine (storeX O2.out).mono ?_
  rintro e w3 ⟨rfl, rfl⟩
  refine hK _ _ J2.out ?_
  clear hK K'
  refine wpAnyJ_writer (i := 4) rfl (by kernel_rfl) (fun K' hK => ?_)
  go_simp
  refine (putX lM O2.out i HI.out v HV.out).mono ?_
  rintro e w4 ⟨rfl, o4⟩
  rw [HS.out] at o4
  have O4 := hide o4
  have J4 : Hid (Cel a 0 (.pointer (some ⟨p', 0, none⟩)) w4) := hide (HCC.out _ _ _ O4.out)
  refine hK _ _ J4.out ?_
  clear hK K' o4 O2 J2
  refine wpAnyJ_writer (i := 11) rfl (by kernel_rfl) (fun K' hK => ?_)
  go_simp
  refine (mxPut (Loc.ax.sep lR) (O4.out.cast (R' := Sep (MX a P T p' r' s pg ds dn L) (Sep (AX q P T p r s' pg ds dn L) R)) (by ac_rfl)) i HI.out v HV.out).mono ?_
  rintro e w5 ⟨rfl, o5⟩
  rw [HS.out] at o5
  have O5 := hide (o5.cast (R' := Sep (AX q P T p r s' pg ds dn L) (Sep (MX a P T p' r' s' pg ds dn L) R)) (by ac_rfl))
  have J5 : Hid (Cel a 0 (.pointer (some ⟨p', 0, none⟩)) w5) := hide (HCC.out _ _ _ O5.out)
  refine hK _ _ J5.out ?_
  clear hK K' o5 O4 J4
  refine stretch (fuel := 0) (by kernel_rfl) (fun _ _ _ _ _ h => h) J5.out [12, 13] (by kernel_rfl) ?_
  simp only [List.filterMap_cons, List.filterMap_nil, List.getElem?_toArray, List.getElem?_cons_zero, List.getElem?_cons_succ]
  show wpQuiet _ _ _ _ [_, _] _
  repeat (go_big_quiet_step (fail))
  refine wpQuiet_nil ?_
  refine wpAnyJ_done (by kernel_rfl) ?_
  clear u0 hne J5
  go_wp2
  go_ret
  exact ⟨rfl, O5.out⟩
end Go.Proofs.YtafamfjgehnddaaGreat

namespace Go.Proofs.YtafamfjgehnddaaGreat
open Go.RowKit

theorem Own.xcell {x pg : Nat} {ds : List Nat} {dn : Nat} {L : RL} {R R' : Res} {w0 w : World} (h : Own R' w0 w) (e : R' = Sep (RX x pg ds dn L) R) : CellIs x 3 (.int .i64 (dn : Int)) w := by
  subst e
  obtain ⟨_, ⟨_, _, ⟨gf, vt, a, c, fb, h1, _, _⟩, _⟩, _⟩ := h
  exact cell_of_heap h1.head
theorem Own.runsV {v : Value} {l : List (Int × Int)} {R R' : Res} {w0 w : World} (h : Own R' w0 w) (e : R' = Sep (RV v l) R) : RunsV w v l := by
  subst e
  obtain ⟨_, ⟨_, _, ⟨h1, _⟩, _⟩, _⟩ := h
  exact h1
theorem Own.nodesV {v : Value} {l : List (Int × Nat)} {R R' : Res} {w0 w : World} (h : Own R' w0 w) (e : R' = Sep (NV v l) R) : NodesV w v l := by
  subst e
  obtain ⟨_, ⟨_, _, ⟨h1, _⟩, _⟩, _⟩ := h
  exact h1

end Go.Proofs.YtafamfjgehnddaaGreat

namespace Go.Proofs.YtafamfjgehnddaaGreat
open Go.RowKit

set_option maxHeartbeats 4000000 in
set_option maxRecDepth 100000 in
theorem plArenas {R : Res} {w0 w : World} (lR : Loc R) (h : Own R w0 w) (pg : Nat) (T : Int) (hm : Lay.may pg T = true) :
    Calls Tryz.prog 14 #[.agg #[.int .i64 (pg : Int), .int .i64 T, .slice none 0 0]] w fun e w' => ∃ q p r a p' r', e = .returned (.tuple #[.pointer (some ⟨q, 0, none⟩), .pointer (some ⟨a, 0, none⟩)]) ∧
      Own (Sep (AX q (pg : Int) T p r (St.first (Lay.words pg T).toNat) pg [] 1 [(kOf 0 pg, ([] : List Nat).getD 0 0, ())]) (Sep (MX a (pg : Int) T p' r' (St.first (Lay.words pg T).toNat) pg [] 1 [(kOf 0 pg, ([] : List Nat).getD 0 0, ())]) R)) w0 w' := by
  have NA := fun (R : Res) (w0 u : World) (l : Loc R) (ho : Own R w0 u) => @anew R w0 u l ho pg T hm [] (by simp) none 0 (fun _ => ⟨rfl, rfl⟩) (fun h => absurd rfl h)
  have NM := fun (R : Res) (w0 u : World) (l : Loc R) (ho : Own R w0 u) => @memNew R w0 u l ho pg T hm [] (by simp) none 0 (fun _ => ⟨rfl, rfl⟩) (fun h => absurd rfl h)
  rw [List.length_nil] at NA NM
  generalize ([(kOf 0 pg, ([] : List Nat).getD 0 0, ())] : RL) = rl at *
  generalize St.first (Lay.words pg T).toNat = s at *
  have HNA := hide NA
  have HNM := hide NM
  clear NA NM hm
  obtain ⟨OO, hOO⟩ : ∃ OO : Obj, OO = .cells #[.int .i64 (pg : Int), .int .i64 T, .slice none 0 0] 49 (0, 0) := ⟨_, rfl⟩
  have HOO := hide hOO
  have O1 : Hid (Own (Sep (BO w.heap.size OO) R) w0 (w.alloc (.cells #[.int .i64 (pg : Int), .int .i64 T, .slice none 0 0] 49))) := hide (Own.boNew lR h (by rw [hOO]; exact heap_alloc_at _ _) (Nat.le_refl _) (grown1 _ _))
  clear h hOO
  go_enter Tryz.func14, Tryz.ntmps14
  go_wp2
  generalize w.alloc (.cells #[.int .i64 (pg : Int), .int .i64 T, .slice none 0 0] 49) = w1 at *
  generalize w.heap.size = B at *
  have lB : Loc (Sep (BO B OO) R) := Loc.bo.sep lR
  have O2 := hide (O1.out.below lB ((Alike.drewN w1 1).below _))
  have J2 : Hid (BkAt B OO w1.drew) := hide (Own.boAt O2.out)
  have hne : Nonempty (Mem (BkAt B OO)) := ⟨⟨_, J2.out⟩⟩
  have U0 : ∀ u : Mem (BkAt B OO), u.w'.cell? ⟨B, 0, none⟩ = some (.int .i64 (pg : Int)) := fun u => cell_of_heap (by rw [← HOO.out]; exact u.h)
  have U1 : ∀ u : Mem (BkAt B OO), u.w'.cell? ⟨B, 1, none⟩ = some (.int .i64 T) := fun u => cell_of_heap (by rw [← HOO.out]; exact u.h)
  have U2 : ∀ u : Mem (BkAt B OO), u.w'.cell? ⟨B, 2, none⟩ = some (.slice none 0 0) := fun u => cell_of_heap (by rw [← HOO.out]; exact u.h)
  clear O1
  refine region_start (J := BkAt B OO) (by kernel_rfl) ?_
  refine stretch (fuel := 4) (by kernel_rfl) (fun _ _ _ _ _ h => h) J2.out [0, 2] (by kernel_rfl) ?_
  simp only [List.filterMap_cons, List.filterMap_nil, List.getElem?_toArray, List.getElem?_cons_zero, List.getElem?_cons_succ]
  show wpQuiet _ _ _ _ [_, _] _
  repeat (go_big_quiet_step (fail))
  refine wpQuiet_nil ?_
  refine wpAnyJ_writer (i := 1) rfl (by kernel_rfl) (fun K' hK => ?_)
  go_simp
  refine (HNA.out _ _ _ lB O2.out).mono ?_
  rintro e w2 ⟨q, p, r, rfl, o2⟩
  have O3 := hide o2
  refine hK _ _ (o2.has (R := Sep (AX q pg T p r s pg [] 1 rl) R) (by ac_rfl)) ?_
  clear hK K' o2 O2 HNA
  refine wpAnyJ_writer (i := 3) rfl (by kernel_rfl) (fun K' hK => ?_)
  go_simp
  refine (HNM.out _ _ _ (Loc.ax.sep lB) O3.out).mono ?_
  rintro e w3 ⟨a, p', r', rfl, o3⟩
  have O4 := hide (o3.cast (R' := Sep (BO B OO) (Sep (AX q pg T p r s pg [] 1 rl) (Sep (MX a pg T p' r' s pg [] 1 rl) R))) (by ac_rfl))
  refine hK _ _ (Own.boAt O4.out) ?_
  clear hK K' o3 O3 HNM
  refine stretch (fuel := 0) (by kernel_rfl) (fun _ _ _ _ _ h => h) (Own.boAt O4.out) [4, 5] (by kernel_rfl) ?_
  simp only [List.filterMap_cons, List.filterMap_nil, List.getElem?_toArray, List.getElem?_cons_zero, List.getElem?_cons_succ]
  show wpQuiet _ _ _ _ [_, _] _
  repeat (go_big_quiet_step (fail))
  refine wpQuiet_nil ?_
  refine wpAnyJ_done (by kernel_rfl) ?_
  clear hne U0 U1 U2 J2
  have O5 := hide O4.out.drop
  clear O4
  go_wp2_with fail
  refine (storeX O5.out).mono ?_
  rintro e w4 ⟨rfl, rfl⟩
  go_wp2_with fail
  refine (runsX O5.out).mono ?_
  rintro e w4 ⟨rfl, rfl⟩
  go_wp2
  go_ret2
  exact ⟨q, p, r, a, p', r', rfl, O5.out⟩
end Go.Proofs.YtafamfjgehnddaaGreat

namespace Go.Proofs.YtafamfjgehnddaaGreat
open Go.RowKit

theorem Own.loose2 {p b : Nat} {s : St} {R : Res} {w0 w : World} (h : Own (Sep (S2b p b s) R) w0 w) : Own (Sep (S2 p s) R) w0 w := by
  obtain ⟨G, ⟨G1, G2, ⟨h1, e⟩, r, c, d⟩, h2, h3⟩ := h
  exact ⟨G, ⟨G1, G2, ⟨b, h1, e⟩, r, c, d⟩, h2, h3⟩
/-- What is read of the document's arena. -/
def MTw (a p r b n : Nat) (P T : Int) (w : World) : Prop := w.heap[a]? = some (MObj p r P T) ∧ w.cell? ⟨p, 0, none⟩ = some (.slice (some ⟨b, 0, none⟩) n n)

set_option maxHeartbeats 8000000 in
set_option maxRecDepth 100000 in
theorem plSame {R : Res} {w0 w : World} (lR : Loc R) {q p r a p' r' pg dn : Nat} {P T : Int} {s : St} {ds : List Nat} {L : RL}
    (h : Own (Sep (AX q P T p r s pg ds dn L) (Sep (MX a P T p' r' s pg ds dn L) R)) w0 w) (hf : Fine pg ds dn L) (hl : s.words.length ≤ 65536) :
    Calls Tryz.prog 12 #[.pointer (some ⟨q, 0, none⟩), .pointer (some ⟨a, 0, none⟩)] w fun e w' => e = .returned (.bool true) ∧ Own (Sep (AX q P T p r s pg ds dn L) (Sep (MX a P T p' r' s pg ds dn L) R)) w0 w' := by
  have HF := hide hf
  have HL : Hid ((runsOf L).length ≤ 1099511627776) := hide (by rw [runsOf_length]; have := HF.out.len; omega)
  obtain ⟨b, o6⟩ := (h.cast (R' := Sep (S2 p' s) (Sep (AX q P T p r s pg ds dn L) (Sep (MH a p' r' P T) (Sep (RX r' pg ds dn L) R)))) (by unfold MX; ac_rfl)).fix2
  obtain ⟨n, hn⟩ : ∃ n, s.words.length = n := ⟨_, rfl⟩
  have s1 := hide hn
  have Q5 := hide (o6.cast (R' := Sep (AX q P T p r s pg ds dn L) (Sep (MXb a P T p' b r' s pg ds dn L) R)) (by unfold MXb; ac_rfl))
  have HLL : Hid (n ≤ 65536) := hide (by rw [← hn]; exact hl)
  have lB : Loc (Sep (MXb a P T p' b r' s pg ds dn L) R) := Loc.mxb.sep lR
  have Q6 := hide (Q5.out.below (Loc.ax.sep lB) ((Alike.drewN w 1).below _))
  clear h o6 hf hl hn Q5
  have HM3 : Hid (∀ u : World, Own (Sep (AX q P T p r s pg ds dn L) (Sep (MXb a P T p' b r' s pg ds dn L) R)) w0 u → MTw a p' r' b n P T u) := hide (fun _ h => ⟨h.mhead (R := Sep (AX q P T p r s pg ds dn L) (Sep (S2b p' b s) (Sep (RX r' pg ds dn L) R))) (by unfold MXb; ac_rfl), by
    have := (h.bstore (p := p') (b := b) (s := s) (R := Sep (AX q P T p r s pg ds dn L) (Sep (MH a p' r' P T) (Sep (RX r' pg ds dn L) R))) (by unfold MXb; ac_rfl)).head
    rw [s1.out] at this
    exact cell_of_heap this⟩)
  have M3 : Hid (∀ u : World, Own (Sep (AX q P T p r s pg ds dn L) (Sep (MXb a P T p' b r' s pg ds dn L) R)) w0 u → WordsAt u b s.words) := hide (fun u h => by
    have hS := h.bstore (p := p') (b := b) (s := s) (R := Sep (AX q P T p r s pg ds dn L) (Sep (MH a p' r' P T) (Sep (RX r' pg ds dn L) R))) (by unfold MXb; ac_rfl)
    exact ⟨hS.row⟩)
  have v0 : ∀ u : Mem (MTw a p' r' b n P T), u.w'.cell? ⟨a, 0, none⟩ = some (.pointer (some ⟨p', 0, none⟩)) := fun u => cell_of_heap u.h.1
  have v1 : ∀ u : Mem (MTw a p' r' b n P T), u.w'.cell? ⟨a, 1, none⟩ = some (.pointer (some ⟨r', 0, none⟩)) := fun u => cell_of_heap u.h.1
  have v2 : ∀ u : Mem (MTw a p' r' b n P T), u.w'.cell? ⟨p', 0, none⟩ = some (.slice (some ⟨b, 0, none⟩) n n) := fun u => u.h.2
  have hne : Nonempty (Mem (MTw a p' r' b n P T)) := ⟨⟨_, HM3.out _ Q6.out⟩⟩
  go_enter Tryz.func12, Tryz.ntmps12
  go_wp2
  refine region_start (J := MTw a p' r' b n P T) (by kernel_rfl) ?_
  refine stretch (fuel := 15) (by kernel_rfl) (fun _ _ _ _ _ h => h) (HM3.out _ Q6.out) [0, 3, 4, 5, 6, 7, 8, 9] (by kernel_rfl) ?_
  simp only [List.filterMap_cons, List.filterMap_nil, List.getElem?_toArray, List.getElem?_cons_zero, List.getElem?_cons_succ]
  show wpQuiet _ _ _ _ [_, _, _, _, _, _, _, _] _
  repeat (go_big_quiet_step (fail))
  refine wpQuiet_nil ?_
  refine wpAnyJ_writer (i := 1) rfl (by kernel_rfl) (fun K hK => ?_)
  go_simp
  refine (storeX Q6.out).mono ?_
  rintro e w6 ⟨rfl, rfl⟩
  refine hK _ _ (HM3.out _ Q6.out) ?_
  clear hK K
  refine wpAnyJ_writer (i := 2) rfl (by kernel_rfl) (fun K hK => ?_)
  go_simp
  obtain ⟨b0, hS0⟩ := AX.st Q6.out
  have HWO := words_of _ p b0 s hS0
  rw [s1.out] at HWO
  refine HWO.mono ?_
  rintro e w7 ⟨g, rfl, hg, _, b7⟩
  have O7 := hide (Q6.out.below (Loc.ax.sep lB) b7)
  have G7 := hide hg
  refine hK _ _ (HM3.out _ O7.out) ?_
  clear hK K b7 hg HWO hS0 Q6
  refine wpAnyJ_writer (i := 10) rfl (by kernel_rfl) (fun K hK => ?_)
  go_simp
  have HSW := same_words _ g b s.words G7.out (M3.out _ O7.out) (by rw [s1.out]; exact HLL.out)
  rw [s1.out] at HSW
  refine HSW.mono ?_
  rintro e w8 ⟨rfl, qn, rfl⟩
  have O8 := hide (O7.out.below (Loc.ax.sep lB) ((Alike.drewN _ qn).below _))
  refine hK _ _ (HM3.out _ O8.out) ?_
  clear hK K HSW O7 G7
  refine stretch (fuel := 6) (by kernel_rfl) (fun _ _ _ _ _ h => h) (HM3.out _ O8.out) [11, 12, 15, 16, 17, 18] (by kernel_rfl) ?_
  simp only [List.filterMap_cons, List.filterMap_nil, List.getElem?_toArray, List.getElem?_cons_zero, List.getElem?_cons_succ]
  show wpQuiet _ _ _ _ [_, _, _, _, _, _] _
  repeat (go_big_quiet_step (fail))
  refine wpQuiet_nil ?_
  refine wpAnyJ_writer (i := 13) rfl (by kernel_rfl) (fun K hK => ?_)
  go_simp
  refine (runsX O8.out).mono ?_
  rintro e w9 ⟨rfl, rfl⟩
  refine hK _ _ (HM3.out _ O8.out) ?_
  clear hK K
  refine wpAnyJ_writer (i := 14) rfl (by kernel_rfl) (fun K hK => ?_)
  go_simp
  refine (listX lB O8.out HF.out).mono ?_
  rintro e w10 ⟨v1, rfl, o10⟩
  have O10 := hide (o10.cast (R' := Sep (RX r' pg ds dn L) (Sep (MH a p' r' P T) (Sep (S2b p' b s) (Sep (AX q P T p r s pg ds dn L) (Sep (RV v1 (runsOf L)) R))))) (by unfold MXb; ac_rfl))
  have J10 : MTw a p' r' b n P T w10 := HM3.out _ (o10.cast (R' := Sep (RV v1 (runsOf L)) (Sep (AX q P T p r s pg ds dn L) (Sep (MXb a P T p' b r' s pg ds dn L) R))) (by ac_rfl)).drop1
  refine hK _ _ J10 ?_
  clear hK K o10 O8
  refine wpAnyJ_writer (i := 19) rfl (by kernel_rfl) (fun K hK => ?_)
  go_simp
  refine (xlistP (Loc.mh.sep (Loc.s2b.sep (Loc.ax.sep (Loc.rv.sep lR)))) O10.out HF.out).mono ?_
  rintro e w11 ⟨v2, rfl, o11⟩
  have O11 := hide (o11.cast (R' := Sep (RV v1 (runsOf L)) (Sep (RV v2 (runsOf L)) (Sep (AX q P T p r s pg ds dn L) (Sep (MXb a P T p' b r' s pg ds dn L) R)))) (by unfold MXb; ac_rfl))
  have J11 : MTw a p' r' b n P T w11 := HM3.out _ O11.out.drop1.drop1
  refine hK _ _ J11 ?_
  clear hK K o11 O10
  refine wpAnyJ_writer (i := 20) rfl (by kernel_rfl) (fun K hK => ?_)
  go_simp
  refine (sameRuns _ v1 v2 (runsOf L) (O11.out.runsV rfl) (O11.out.drop1.runsV rfl) HL.out).mono ?_
  rintro e w12 ⟨rfl, h12⟩
  have O12 := hide (O11.out.drop1.drop1.below (Loc.ax.sep lB) (h12.below _))
  refine hK _ _ (HM3.out _ O12.out) ?_
  clear hK K h12 O11
  refine stretch (fuel := 0) (by kernel_rfl) (fun _ _ _ _ _ h => h) (HM3.out _ O12.out) [21, 22] (by kernel_rfl) ?_
  simp only [List.filterMap_cons, List.filterMap_nil, List.getElem?_toArray, List.getElem?_cons_zero, List.getElem?_cons_succ]
  show wpQuiet _ _ _ _ [_, _] _
  repeat (go_big_quiet_step (fail))
  refine wpQuiet_nil ?_
  refine wpAnyJ_done (by kernel_rfl) ?_
  clear hne v0
  have o13 : Own (Sep (S2b p' b s) (Sep (AX q P T p r s pg ds dn L) (Sep (MH a p' r' P T) (Sep (RX r' pg ds dn L) R)))) w0 w12 := O12.out.cast (by unfold MXb; ac_rfl)
  have O13 : Hid (Own (Sep (AX q P T p r s pg ds dn L) (Sep (MX a P T p' r' s pg ds dn L) R)) w0 w12) := hide (o13.loose2.cast (by unfold MX; ac_rfl))
  clear o13 O12
  go_wp2
  go_ret
  exact ⟨rfl, O13.out⟩
end Go.Proofs.YtafamfjgehnddaaGreat

namespace Go.Proofs.YtafamfjgehnddaaGreat
open Go.ChangeShapes Go.WideShapes Go.ChangeAt Go.RowKit Go.Deep

theorem laidOut : laidOutB Tryz.prog = true := by kernel_rfl
theorem cellsU8 : Tryz.prog.cellsOf 5 = 1 := by kernel_rfl

theorem add_at (b o k : Nat) : (⟨b, o, none⟩ : Addr).add k = ⟨b, o + k, none⟩ := by
  by_cases h : k = 0
  · subst h; simp [Addr.add]
  · simp [Addr.add, h]

/-- The place k of such a list. -/
structure ByteAt (w : World) (b o k x : Nat) : Prop where
  cell : w.cell? ⟨b, o + k, none⟩ = some (.int .u8 (x : Int))
  lt : b < w.heap.size
  hx : x < 256

theorem ByteAt.kept {w w' : World} {b o k x : Nat} {B : Nat} (h : ByteAt w b o k x) (hb : Below B w w') (hB : b < B) : ByteAt w' b o k x :=
  ⟨(hb.cell (p := ⟨b, _, none⟩) hB).trans h.cell, Nat.lt_of_lt_of_le h.lt hb.size, h.hx⟩

def BytesIn (w : World) (ao : Option Addr) (len : Nat) : Prop := ∀ k, k < len → ∃ b o x, ao = some ⟨b, o, none⟩ ∧ ByteAt w b o k x

set_option maxRecDepth 100000 in
theorem open_bytes {H : Type} {enc : TypeId × Value → H} {W : World} {v : Value} {d : DataW H} {ps : List MemPlace} {base : Nat} (hv : Value.okWide Tryz.prog W .any base 22 v)
    (h : DataW.Trod enc Tryz.prog W 0 (fun _ => true) true 22 v d ps) : ∃ ao len cap, v = .slice ao len cap ∧ len ≤ cap ∧ cap ≤ maxLen ∧ BytesIn W ao len := by
  obtain ⟨a0, len0, cap0, rfl⟩ := okWide_slice Tryz.underlying22 hv
  obtain ⟨fuel, h⟩ := h
  rw [show (Value.slice a0 len0 cap0).cells.toList = [.slice a0 len0 cap0] from rfl] at h
  rcases open_slice Tryz.underlying22 h with ⟨hc, _⟩ | ⟨a, len, cap, m, n, D, Pl, hc, _, hl, hm, hmm, _, hx⟩
  · simp only [List.cons.injEq, and_true, Value.slice.injEq] at hc
    obtain ⟨rfl, rfl, rfl⟩ := hc
    exact ⟨none, 0, 0, rfl, Nat.le_refl _, Nat.zero_le _, fun k hk => by omega⟩
  · simp only [List.cons.injEq, and_true, Value.slice.injEq] at hc
    obtain ⟨rfl, rfl, rfl⟩ := hc
    simp only [if_true] at hmm
    subst hmm
    refine ⟨some a, len0, m, rfl, hl, hm, fun k hk => ?_⟩
    rw [cellsU8] at hx
    have hspot : a.spot = none := by
      obtain ⟨cs', h1, h2⟩ := hx 0 (by omega)
      obtain ⟨_, hlen, hcell⟩ := World.cells?_some h1
      have h0 := hcell 0 (by omega)
      rw [List.getElem?_eq_getElem (by omega)] at h0
      simpa [Addr.add] using World.cell?_spot h0
    obtain ⟨b, o, sp⟩ := a
    simp only at hspot
    subst hspot
    obtain ⟨cs', h1, h2⟩ := hx k (by omega)
    obtain ⟨_, hlen, hcell⟩ := World.cells?_some h1
    match cs', hlen with
    | [v0], _ =>
      obtain ⟨n0, e0, _, w0⟩ := DataW.trod_int Tryz.underlying5 h2
      simp only [List.cons.injEq, and_true] at e0
      subst e0
      obtain ⟨x0, hx0, rfl⟩ := u8_nat w0
      have a0 := hcell 0 (by omega)
      rw [add_at, add_at] at a0
      simp only [Nat.mul_one, Nat.add_zero, List.getElem?_cons_zero] at a0
      exact ⟨b, o, x0, rfl, a0, World.block_lt_of_cell? W _ a0, hx0⟩

end Go.Proofs.YtafamfjgehnddaaGreat

namespace Go.Proofs.YtafamfjgehnddaaGreat
open Go.ChangeShapes Go.WideShapes Go.ChangeAt Go.RowKit Go.Deep

theorem cellsW64 : Tryz.prog.cellsOf 25 = 1 := by kernel_rfl
/-- The place k of such a list. -/
structure Word8At (w : World) (b o k x : Nat) : Prop where
  cell : w.cell? ⟨b, o + k, none⟩ = some (.int .u64 (x : Int))
  lt : b < w.heap.size
  hx : x < 18446744073709551616

theorem Word8At.kept {w w' : World} {b o k x : Nat} {B : Nat} (h : Word8At w b o k x) (hb : Below B w w') (hB : b < B) : Word8At w' b o k x :=
  ⟨(hb.cell (p := ⟨b, _, none⟩) hB).trans h.cell, Nat.lt_of_lt_of_le h.lt hb.size, h.hx⟩

def WordsAll (w : World) (ao : Option Addr) (len : Nat) : Prop := ∀ k, k < len → ∃ b o x, ao = some ⟨b, o, none⟩ ∧ Word8At w b o k x

set_option maxRecDepth 100000 in
theorem open_words {H : Type} {enc : TypeId × Value → H} {W : World} {v : Value} {d : DataW H} {ps : List MemPlace} {base : Nat} (hv : Value.okWide Tryz.prog W .any base 46 v)
    (h : DataW.Trod enc Tryz.prog W 0 (fun _ => true) true 46 v d ps) : ∃ ao len cap, v = .slice ao len cap ∧ len ≤ cap ∧ cap ≤ maxLen ∧ True ∧ True ∧ WordsAll W ao len := by
  obtain ⟨a0, len0, cap0, rfl⟩ := okWide_slice Tryz.underlying46 hv
  obtain ⟨fuel, h⟩ := h
  rw [show (Value.slice a0 len0 cap0).cells.toList = [.slice a0 len0 cap0] from rfl] at h
  rcases open_slice Tryz.underlying46 h with ⟨hc, _⟩ | ⟨a, len, cap, m, n, D, Pl, hc, _, hl, hm, hmm, _, hx⟩
  · simp only [List.cons.injEq, and_true, Value.slice.injEq] at hc
    obtain ⟨rfl, rfl, rfl⟩ := hc
    exact ⟨none, 0, 0, rfl, Nat.le_refl _, Nat.zero_le _, trivial, trivial, fun k hk => by omega⟩
  · simp only [List.cons.injEq, and_true, Value.slice.injEq] at hc
    obtain ⟨rfl, rfl, rfl⟩ := hc
    simp only [if_true] at hmm
    subst hmm
    refine ⟨some a, len0, m, rfl, hl, hm, trivial, trivial, fun k hk => ?_⟩
    rw [cellsW64] at hx
    have hspot : a.spot = none := by
      obtain ⟨cs', h1, h2⟩ := hx 0 (by omega)
      obtain ⟨_, hlen, hcell⟩ := World.cells?_some h1
      have h0 := hcell 0 (by omega)
      rw [List.getElem?_eq_getElem (by omega)] at h0
      simpa [Addr.add] using World.cell?_spot h0
    obtain ⟨b, o, sp⟩ := a
    simp only at hspot
    subst hspot
    obtain ⟨cs', h1, h2⟩ := hx k (by omega)
    obtain ⟨_, hlen, hcell⟩ := World.cells?_some h1
    match cs', hlen with
    | [v0], _ =>
      obtain ⟨n0, e0, _, w0⟩ := DataW.trod_int Tryz.underlying25 h2
      simp only [List.cons.injEq, and_true] at e0
      subst e0
      obtain ⟨x0, hx0, rfl⟩ := u64_nat w0
      have a0 := hcell 0 (by omega)
      rw [add_at, add_at] at a0
      simp only [Nat.mul_one, Nat.add_zero, List.getElem?_cons_zero] at a0
      exact ⟨b, o, x0, rfl, a0, World.block_lt_of_cell? W _ a0, hx0⟩

end Go.Proofs.YtafamfjgehnddaaGreat

namespace Go.Proofs.YtafamfjgehnddaaGreat
open Go Go.RowKit

def kSwp (P T : Int) (pg : Nat) : MK := ⟨7, P, T, 0, (pg : Int), 0, 0, 0, 0, 0, 0, 0, false, .slice none 0 0⟩
def vNone7 : MV := ⟨.slice none 0 0, false, 0, false, .pointer none, 0, 0, 0, 0, 0, 0, 0, 0, 0, .slice none 0 0, .slice none 0 0, 0, 0⟩
/-- A sweep on its way: its blocks, its page, what it holds; the document's. -/
structure SwG where
  m : Nat
  b : Nat
  pg : Nat
  d : Nat
  km : Nat
  al : Nat
  v : MV
  l : List Nat
inductive SL where
  | off
  | on (x : SwG)
def SwG.res (x : SwG) : Res := Sep (BO x.m (swpO 4 1 (x.pg : Int) (x.d : Int) x.km x.al)) (Sep (BO x.b (mObj (kSwp 4 1 x.pg) x.v)) (LogR x.v.log x.l))
def SL.res : SL → Res
  | .off => Nought
  | .on x => x.res
def SL.ref : SL → Value
  | .off => .pointer none
  | .on x => .pointer (some ⟨x.b, 0, none⟩)
structure SwG.Ok (x : SwG) : Prop where
  pgb : x.pg < 4
  db : x.d < 4
  kmb : x.km < 18446744073709551616
  alb : x.al < 18446744073709551616
  log : SwLog x.d x.km x.al x.l
  on : x.v.done = false
def SL.ok (ov : Value) : SL → Prop
  | .off => ∃ pa, ov = .pointer pa
  | .on x => x.Ok ∧ ov = .pointer (some ⟨x.m, 0, none⟩)
theorem Loc.swG {x : SwG} : Loc x.res := Loc.bo.sep (Loc.bo.sep Loc.logR)
theorem SL.loc : ∀ x : SL, Loc x.res
  | .off => Loc.nought
  | .on _ => Loc.swG
def refs7 (S : Nat → SL) (j : Nat) : Value := (S j).ref
def mach7 (S : Nat → SL) (j : Nat) : Res := (S j).res
theorem Loc.mach7 {S : Nat → SL} (j : Nat) : Loc (mach7 S j) := SL.loc _
theorem refs7_upd (S : Nat → SL) (t : Nat) (x : SL) : refs7 (upd S t x) = upd (refs7 S) t x.ref := by
  funext j; unfold refs7 upd; split <;> rfl
theorem mach7_upd (S : Nat → SL) (t : Nat) (x : SL) : mach7 (upd S t x) = upd (mach7 S) t x.res := by
  funext j; unfold mach7 upd
  by_cases e : j = t
  · subst e; simp
  · simp [e]
/-- What lies beside both rows and the machines. -/
def ArenaS (q p r a p' r' : Nat) (s s2 : St) (rl : RL) (R : Res) : Res := Sep (AX q 4 1 p r s 4 [] 1 rl) (Sep (MX a 4 1 p' r' s2 4 [] 1 rl) R)
theorem Loc.arenaS {q p r a p' r' : Nat} {s s2 : St} {rl : RL} {R : Res} (l : Loc R) : Loc (ArenaS q p r a p' r' s s2 rl R) := Loc.ax.sep (Loc.mx.sep l)
def GameS (g8 g9 q p r a p' r' : Nat) (s : St) (rl : RL) (ov : Nat → Value) (S : Nat → SL) (R : Res) : Res :=
  Sep (BO g8 (.cells (rowN 2 ov) 53 (0, 0))) (Sep (BO g9 (.cells (rowN 2 (refs7 S)) 55 (0, 0))) (Sep (Many (mach7 S) 2) (ArenaS q p r a p' r' s s rl R)))
def SideS (g8 g9 q p r a p' r' : Nat) (s s2 : St) (rl : RL) (ov rv : Nat → Value) (S : Nat → SL) (t : Nat) (R : Res) : Res :=
  Sep (BO g8 (.cells (rowN 2 ov) 53 (0, 0))) (Sep (BO g9 (.cells (rowN 2 rv) 55 (0, 0))) (Sep (Many (upd (mach7 S) t Nought) 2) (ArenaS q p r a p' r' s s2 rl R)))
section
variable {R : Res} {g8 g9 q p r a p' r' t : Nat} {s s2 : St} {rl : RL} {ov rv : Nat → Value} {S : Nat → SL}
theorem Loc.gameS (l : Loc R) : Loc (GameS g8 g9 q p r a p' r' s rl ov S R) := Loc.bo.sep (Loc.bo.sep ((Loc.many Loc.mach7 2).sep (Loc.arenaS l)))
theorem Loc.sideS (l : Loc R) : Loc (SideS g8 g9 q p r a p' r' s s2 rl ov rv S t R) := Loc.bo.sep (Loc.bo.sep ((Loc.rest Loc.mach7 t 2).sep (Loc.arenaS l)))
theorem GameS.out (ht : t < 2) : GameS g8 g9 q p r a p' r' s rl ov S R = Sep (S t).res (SideS g8 g9 q p r a p' r' s s rl ov (refs7 S) S t R) := by
  unfold GameS SideS
  rw [Many.at (mach7 S) t 2 ht]
  show Sep _ (Sep _ (Sep (Sep (S t).res _) _)) = _
  ac_rfl
theorem GameS.turn (ht : t < 2) (x : SL) : Sep x.res (SideS g8 g9 q p r a p' r' s s rl ov (upd (refs7 S) t x.ref) S t R) = GameS g8 g9 q p r a p' r' s rl ov (upd S t x) R := by
  unfold GameS SideS
  rw [refs7_upd, mach7_upd, Many.put (mach7 S) t x.res 2 ht]
  ac_rfl
theorem GameS.start (RB : Res) : GameS g8 g9 q p r a p' r' s rl (fun _ => .pointer none) (fun _ => .off) RB = Sep (BO g8 (.cells #[.pointer none, .pointer none] 53 (0, 0))) (Sep (BO g9 (.cells #[.pointer none, .pointer none] 55 (0, 0))) (ArenaS q p r a p' r' s s rl RB)) := by
  unfold GameS
  rw [show mach7 (fun _ => .off) = (fun _ => Nought) from rfl, Many.none, Sep.nought]
  rfl
theorem SideS.ar : SideS g8 g9 q p r a p' r' s s2 rl ov rv S t R = Sep (AX q 4 1 p r s 4 [] 1 rl) (Sep (MX a 4 1 p' r' s2 4 [] 1 rl) (Sep (BO g8 (.cells (rowN 2 ov) 53 (0, 0))) (Sep (BO g9 (.cells (rowN 2 rv) 55 (0, 0))) (Sep (Many (upd (mach7 S) t Nought) 2) R)))) := by
  unfold SideS ArenaS; ac_rfl
end
theorem SideS.mem {w0 w : World} {X R : Res} {g8 g9 q p r a p' r' t : Nat} {s s2 : St} {rl : RL} {ov rv : Nat → Value} {S : Nat → SL} (h : Own (Sep X (SideS g8 g9 q p r a p' r' s s2 rl ov rv S t R)) w0 w) : w.heap[a]? = some (MObj p' r' 4 1) :=
  h.mhead (m := a) (p := p') (r := r') (P := 4) (T := 1) (R := Sep X (Sep (BO g8 (.cells (rowN 2 ov) 53 (0, 0))) (Sep (BO g9 (.cells (rowN 2 rv) 55 (0, 0))) (Sep (Many (upd (mach7 S) t Nought) 2) (Sep (AX q 4 1 p r s 4 [] 1 rl) (Sep (S2 p' s2) (Sep (RX r' 4 [] 1 rl) R))))))) (by unfold SideS ArenaS MX; ac_rfl)
theorem SideS.mem0 {w0 w : World} {R : Res} {g8 g9 q p r a p' r' t : Nat} {s s2 : St} {rl : RL} {ov rv : Nat → Value} {S : Nat → SL} (h : Own (SideS g8 g9 q p r a p' r' s s2 rl ov rv S t R) w0 w) : w.heap[a]? = some (MObj p' r' 4 1) :=
  SideS.mem (X := Nought) (h.cast (Sep.nought _).symm)
theorem SideS.c8 {w0 w : World} {X R : Res} {g8 g9 q p r a p' r' t : Nat} {s s2 : St} {rl : RL} {ov rv : Nat → Value} {S : Nat → SL} (ht : t < 2) (h : Own (Sep X (SideS g8 g9 q p r a p' r' s s2 rl ov rv S t R)) w0 w) : w.cell? ⟨g8, t, none⟩ = some (ov t) ∧ w.cell? ⟨g9, t, none⟩ = some (rv t) :=
  ⟨(cell_of_heap (h.has (m := g8) (o := .cells (rowN 2 ov) 53 (0, 0)) (R := Sep X (Sep (BO g9 (.cells (rowN 2 rv) 55 (0, 0))) (Sep (Many (upd (mach7 S) t Nought) 2) (ArenaS q p r a p' r' s s2 rl R)))) (by unfold SideS; ac_rfl))).trans (rowN_get _ ht),
   (cell_of_heap (h.has (m := g9) (o := .cells (rowN 2 rv) 55 (0, 0)) (R := Sep X (Sep (BO g8 (.cells (rowN 2 ov) 53 (0, 0))) (Sep (Many (upd (mach7 S) t Nought) 2) (ArenaS q p r a p' r' s s2 rl R)))) (by unfold SideS; ac_rfl))).trans (rowN_get _ ht)⟩
/-- Both slots. -/
def FitS (ov : Nat → Value) (S : Nat → SL) : Prop := ∀ j, j < 2 → (S j).ok (ov j)
theorem FitS.turn {t : Nat} {ov : Nat → Value} {S : Nat → SL} (h : ∀ j, j < 2 → j ≠ t → (S j).ok (ov j)) (x : SL) (hx : x.ok (ov t)) : FitS ov (upd S t x) := fun j hj => by
  by_cases e : j = t
  · subst e; rw [upd_at]; exact hx
  · rw [upd_ne _ _ e]; exact h j hj e
/-- The words of an arena are words. -/
theorem ax_bd {R : Res} {w0 w : World} {q : Nat} {P T : Int} {p r : Nat} {s : St} {pg : Nat} {ds : List Nat} {dn : Nat} {L : RL} (h : Own (Sep (AX q P T p r s pg ds dn L) R) w0 w) (i : Nat) : s.words.getD i 0 < 18446744073709551616 := by
  obtain ⟨b, hS⟩ := AX.st h
  exact getD_lt _ hS.bd i
theorem swMk_bd {T : Int} {p d mk : Nat} {ws : List Nat} (h : ∀ i, ws.getD i 0 < 18446744073709551616) (hm : mk < 18446744073709551616) : swMk T p d mk ws < 18446744073709551616 := by
  unfold swMk; split
  · exact h _
  · exact hm
theorem swAl_bd {T : Int} {p d al : Nat} {ws : List Nat} (h : ∀ i, ws.getD i 0 < 18446744073709551616) (hm : al < 18446744073709551616) : swAl T p d al ws < 18446744073709551616 := by
  unfold swAl; split
  · exact h _
  · exact hm
theorem SwLog.none : SwLog 0 0 0 [] := ⟨rfl, fun h => absurd h (by omega), fun h => absurd h (by omega)⟩
/-- A log of nothing lies nowhere. -/
theorem Own.logNo {R : Res} {w0 w : World} (h : Own R w0 w) : Own (Sep (LogR (.slice none 0 0) []) R) w0 w := by
  obtain ⟨G, h1, h2, h3⟩ := h
  refine ⟨G, ⟨fun _ => False, G, ⟨⟨rfl, .inl ⟨rfl, rfl⟩⟩, fun x => ⟨fun h => h.elim, fun h => by cases h⟩⟩, h1, fun x h => h.elim, fun x => ⟨.inr, fun h => h.elim (fun h => h.elim) id⟩⟩, h2, h3⟩
end Go.Proofs.YtafamfjgehnddaaGreat
