/- The document's machine in memory: what it is made of, what was told, what came of it. The document's machine: told, now. The document's machine: tell; load, put, cas: told, done now, or not. The document's machine: load, put, cas, add: told ahead of now, not to be done now, done now (printed by gen/docacc.py). Numbers of package tag: a head, its page, its tag, the head that follows. No program is named here. What the functions of packages tag and dustpanref6 answer, each at every argument. The document's machine: a word's place; what was told, attempt by attempt. What a step of the document's machine leaves. The document's machine: pop, by what was told of the last attempt (printed by gen/docpop.py). The document's machine: mark, the first one of a step. -/
import Derived.Test.YtafamfjgehnddaaGreatPY
import Derived.Test.YtafamfjgehnddaaGreatPA
import Derived.RangeFuncBox
import Derived.Maps.AppendAt
import Derived.Deep.CutRange
import Derived.Deep.CutBlock
import Derived.Test.YtafamfjgehnddaaGreatLayRef
import Derived.Deep.LoopGhost
namespace Go.Proofs.YtafamfjgehnddaaGreat
open Go Go.RowKit

/-- What a machine is made of. -/
structure MK where
  what : Int
  P : Int
  T : Int
  thread : Int
  page : Int
  cls : Int
  pages : Int
  gen : Int
  head : Int
  size : Int
  most : Int
  mask : Nat
  drop : Bool
  list : Value
/-- What turns. -/
structure MV where
  log : Value
  done : Bool
  at_ : Nat
  used : Bool
  mem : Value
  d0 : Int
  d1 : Int
  d2 : Nat
  d3 : Nat
  got : Int
  code : Int
  n : Int
  gens : Int
  freed : Nat
  live : Value
  marks : Value
  full : Int
  e0 : Int
def mCells (k : MK) (v : MV) : Array Value :=
  #[.int .i64 k.what, .int .i64 k.P, .int .i64 k.T, .int .i64 k.thread, .int .i64 k.page, .int .i64 k.cls, .int .i64 k.pages, .int .i64 k.gen, .int .i64 k.head, .int .i64 k.size, .int .i64 k.most, .int .u64 (k.mask : Int), .bool k.drop, k.list,
    v.log, .bool v.done, .int .i64 (v.at_ : Int), .bool v.used, v.mem, .int .i64 v.d0, .int .i64 v.d1, .int .u64 (v.d2 : Int), .int .u64 (v.d3 : Int), .int .i64 v.got, .int .i64 v.code, .int .i64 v.n, .int .i64 v.gens, .int .u64 (v.freed : Int), v.live, v.marks, .int .i64 v.full, .int .i64 v.e0]
def mObj (k : MK) (v : MV) : Obj := .cells (mCells k v) 69 (0, 0)

/-- What was told, in a row by itself. -/
def LogR (v : Value) (l : List Nat) : Res := fun W G => W.ownsRow 0 25 1 v l.length (wordVals l) ∧ ∀ x, G x ↔ v.ownBlock = some x
theorem Loc.logR {v : Value} {l : List Nat} : Loc (LogR v l) := by
  refine ⟨fun {w w' M G} ⟨h1, h2⟩ o hn => ⟨⟨h1.1, ?_⟩, h2⟩, fun {w G x} ⟨h1, h2⟩ hx => ?_⟩
  · rcases h1.2 with h0 | ⟨g, cap, cur, e, hb, hg, h4⟩
    · exact .inl h0
    · exact .inr ⟨g, cap, cur, e, hb, (o.block g (lt_of_heap hg) (hn g ((h2 g).2 (by rw [e]; rfl)))).trans hg, h4⟩
  · rcases h1.2 with ⟨e, _⟩ | ⟨g, cap, cur, e, hb, hg, h4⟩
    · have := (h2 x).1 hx; rw [e] at this; cases this
    · have := (h2 x).1 hx
      rw [e] at this
      obtain rfl : g = x := by simpa [Value.ownBlock] using this
      exact lt_of_heap hg
theorem Own.log {R R' : Res} {w0 w : World} {v : Value} {l : List Nat} (h : Own R' w0 w) (e : R' = Sep (LogR v l) R) : w.ownsRow 0 25 1 v l.length (wordVals l) := by
  obtain ⟨_, ⟨_, _, a, _⟩, _⟩ := h.cast e
  exact a.1
theorem log_cell {W : World} {v : Value} {l : List Nat} (h : W.ownsRow 0 25 1 v l.length (wordVals l)) (i : Nat) (hi : i < l.length) : ∃ g c, v = .slice (some ⟨g, 0, none⟩) l.length c ∧ W.cell? ⟨g, i, none⟩ = some (.int .u64 (l.getD i 0 : Nat)) := by
  rcases h.2 with ⟨_, h0⟩ | ⟨g, cap, cur, e, hb, hg, _⟩
  · omega
  · have h' := h
    rw [e] at h'
    refine ⟨g, cap, e, ?_⟩
    rw [World.ownsRow.cellAt h' i (by omega)]
    simp [wordVals, hi]
end Go.Proofs.YtafamfjgehnddaaGreat

namespace Go.Proofs.YtafamfjgehnddaaGreat
open Go Go.RowKit

section
variable {R : Res} {w0 w : World} {b : Nat} {k : MK} {v : MV} {l : List Nat}

set_option maxHeartbeats 1000000 in
theorem m_told1 (lR : Loc R) (h : Own (Sep (BO b (mObj k v)) (Sep (LogR v.log l) R)) w0 w) (a : Nat) (ha : v.at_ = a) (hl : a < l.length) (hl2 : l.length < 4611686018427387904) (x : Nat) (hx : l.getD a 0 = x) :
    Calls Tryz.prog 134 #[.pointer (some ⟨b, 0, none⟩)] w fun e w' => e = .returned (.tuple #[.int .u64 (x : Int), .bool true]) ∧ Own (Sep (BO b (mObj k { v with at_ := a + 1 })) (Sep (LogR v.log l) R)) w0 w' := by
  have hb := Own.boAt h
  have hL := h.log (R := Sep (BO b (mObj k v)) R) (by ac_rfl)
  obtain ⟨g, c, hv, hc⟩ := log_cell hL a hl
  rw [hx] at hc
  have lB : Loc (Sep (BO b (mObj k v)) (Sep (LogR v.log l) R)) := Loc.bo.sep (Loc.logR.sep lR)
  have c14 : w.cell? ⟨b, 14, none⟩ = some v.log := cell_of_heap hb
  have c16 : w.cell? ⟨b, 16, none⟩ = some (.int .i64 (a : Int)) := by rw [← ha]; exact cell_of_heap hb
  rw [hv] at c14
  have hgl := lt_of_heap hb
  have HO := hide h
  have HC := hide hc
  have HX := hide hx
  have HV := hide hv
  have HB := hide hb
  obtain ⟨m, hm⟩ : ∃ m, l.length = m := ⟨_, rfl⟩
  have HM := hide hm
  rw [hm] at c14 hl hl2
  have HA := hide ha
  clear h hL hc hb hx ha hm
  go_enter Tryz.func134, Tryz.ntmps134
  go_wp2
  go_quiet (fail)
  have O1 := hide (HO.out.below lB ((Alike.drewN w nq).below _))
  have HC1 : Hid ((w.drewN nq).cell? ⟨g, a, none⟩ = some (.int .u64 (x : Int))) := HC
  clear c14 c16 HB HO HC
  generalize w.drewN nq = w1 at *
  have hb1 := Own.boAt O1.out
  have c16 : w1.cell? ⟨b, 16, none⟩ = some (.int .i64 (a : Int)) := by have := HA.out; rw [← this]; exact cell_of_heap hb1
  have f16 : ∀ o, w1.frozen? ⟨b, o, none⟩ = false := fun o => frozen_of_heap hb1
  have O2 : Hid (Own (Sep (BO b (mObj k { v with at_ := a + 1 })) (Sep (LogR v.log l) R)) w0 (w1.setCell ⟨b, 16, none⟩ (.int .i64 ((a : Int) + 1)))) := hide (Own.boSet (Loc.logR.sep lR) O1.out 16 (.int .i64 ((a : Int) + 1)))
  go_wp2
  clear c16 f16 O1 hb1
  generalize w1.setCell ⟨b, 16, none⟩ (.int .i64 ((a : Int) + 1)) = w2 at *
  have hb2 := Own.boAt O2.out
  have HC2 : Hid (w2.cell? ⟨g, a, none⟩ = some (.int .u64 (x : Int))) := hide (by
    have hL2 := O2.out.log (R := Sep (BO b (mObj k { v with at_ := a + 1 })) R) (by ac_rfl)
    obtain ⟨g', c', hv', hc'⟩ := log_cell hL2 a (by rw [HM.out]; exact hl)
    rw [HX.out] at hc'
    have this : g = g' := by
      have e := HV.out.symm.trans hv'
      simp at e
      exact e.1
    rw [this]; exact hc')
  have c14 : w2.cell? ⟨b, 14, none⟩ = some (.slice (some ⟨g, 0, none⟩) m c) := by
    have : w2.cell? ⟨b, 14, none⟩ = some v.log := cell_of_heap hb2
    rw [this, HV.out, HM.out]
  have c16 : w2.cell? ⟨b, 16, none⟩ = some (.int .i64 ((a : Int) + 1)) := cell_of_heap hb2
  have cg := HC2.out
  clear hb2 HC1
  go_quiet (fail)
  go_wp2
  go_ret2
  exact ⟨rfl, O2.out.below (Loc.bo.sep (Loc.logR.sep lR)) ((Alike.drewN w2 _).below _)⟩

set_option maxHeartbeats 1000000 in
theorem m_told0 (lR : Loc R) (h : Own (Sep (BO b (mObj k v)) (Sep (LogR v.log l) R)) w0 w) (a : Nat) (ha : v.at_ = a) (hl : l.length ≤ a) :
    Calls Tryz.prog 134 #[.pointer (some ⟨b, 0, none⟩)] w fun e w' => e = .returned (.tuple #[.int .u64 0, .bool false]) ∧ Own (Sep (BO b (mObj k v)) (Sep (LogR v.log l) R)) w0 w' := by
  have hb := Own.boAt h
  have hL := h.log (R := Sep (BO b (mObj k v)) R) (by ac_rfl)
  have lB : Loc (Sep (BO b (mObj k v)) (Sep (LogR v.log l) R)) := Loc.bo.sep (Loc.logR.sep lR)
  have c14 : w.cell? ⟨b, 14, none⟩ = some v.log := cell_of_heap hb
  have c16 : w.cell? ⟨b, 16, none⟩ = some (.int .i64 (a : Int)) := by rw [← ha]; exact cell_of_heap hb
  obtain ⟨va, vc, hv⟩ := ownsRow_slice hL
  rw [hv] at c14
  obtain ⟨m, hm⟩ : ∃ m, l.length = m := ⟨_, rfl⟩
  rw [hm] at c14 hl
  have HO := hide h
  clear h hL hb ha hm hv
  go_enter Tryz.func134, Tryz.ntmps134
  go_wp2
  go_quiet (fail)
  have O1 := hide (HO.out.below lB ((Alike.drewN w nq).below _))
  clear c14 c16 HO
  generalize w.drewN nq = w1 at *
  go_wp2
  go_ret2
  exact ⟨rfl, O1.out⟩

theorem m_now1 (lR : Loc R) (h : Own (Sep (BO b (mObj k v)) R) w0 w) (hu : v.used = false) :
    Calls Tryz.prog 135 #[.pointer (some ⟨b, 0, none⟩)] w fun e w' => e = .returned (.bool true) ∧ Own (Sep (BO b (mObj k { v with used := true })) R) w0 w' := by
  have hb := Own.boAt h
  have c17 : w.cell? ⟨b, 17, none⟩ = some (.bool false) := by rw [← hu]; exact cell_of_heap hb
  have f17 : ∀ o, w.frozen? ⟨b, o, none⟩ = false := fun o => frozen_of_heap hb
  have O2 : Hid (Own (Sep (BO b (mObj k { v with used := true })) R) w0 (w.setCell ⟨b, 17, none⟩ (.bool true))) := hide (Own.boSet lR h 17 (.bool true))
  clear h hb hu
  go_enter Tryz.func135, Tryz.ntmps135
  go_wp2
  go_ret
  exact ⟨rfl, O2.out⟩
theorem m_now0 (h : Own (Sep (BO b (mObj k v)) R) w0 w) (hu : v.used = true) :
    Calls Tryz.prog 135 #[.pointer (some ⟨b, 0, none⟩)] w fun e w' => e = .returned (.bool false) ∧ w' = w := by
  have hb := Own.boAt h
  have c17 : w.cell? ⟨b, 17, none⟩ = some (.bool true) := by rw [← hu]; exact cell_of_heap hb
  clear h hb hu
  go_enter Tryz.func135, Tryz.ntmps135
  go_wp2
  go_ret
  exact ⟨rfl, rfl⟩
end
end Go.Proofs.YtafamfjgehnddaaGreat

namespace Go.Proofs.YtafamfjgehnddaaGreat
open Go Go.RowKit

theorem infoW12 : (Tryz.prog.info? 25).map (fun i => (i.zero, i.size, i.bytes)) = some (some (.int .u64 0), 1, 8) := by kernel_rfl
theorem only_of_grown {w w' : World} {row : Option Nat} (h : w.grownBy w' row) : Only (fun k => row = some k) w w' :=
  ⟨h.os, h.tape, h.output, h.size, fun k hk hn => h.block k hk (fun e => hn e.symm)⟩

theorem Own.logStep {R : Res} {w0 w w3 : World} {v lv : Value} {l : List Nat} {x : Nat} {tmp : Obj} (lR : Loc R) (h : Own (Sep (LogR v l) R) w0 w) (hown : w3.ownsRow 0 25 1 lv (l.length + 1) (wordVals l ++ [.int .u64 (x : Int)]))
    (hgrow : (w.alloc tmp).grownBy w3 v.ownBlock) (hblk : lv.ownBlock = v.ownBlock ∨ lv.ownBlock = some (w.alloc tmp).heap.size) : Own (Sep (LogR lv (l ++ [x])) R) w0 w3 := by
  obtain ⟨G, ⟨G1, G2, ⟨a1, a2⟩, r, c, d⟩, h2, h3⟩ := Own.below (Loc.logR.sep lR) h (grown1 w tmp)
  have e : wordVals (l ++ [x]) = wordVals l ++ [.int .u64 (x : Int)] := by simp [wordVals]
  refine Own.step (G1 := G1) (G1' := fun y => lv.ownBlock = some y) (G2 := G2) lR h3 (fun y hy => h2 y ((d y).2 hy)) r c ⟨?_, fun _ => Iff.rfl⟩ ((only_of_grown hgrow).mono (fun y _ hy => (a2 y).2 hy)) (fun y hy => ?_)
  · rw [List.length_append, List.length_singleton, e]; exact hown
  · rcases hblk with q | q
    · exact .inl ((a2 y).2 (q ▸ hy))
    · rw [q] at hy
      exact .inr (by have : (w.alloc tmp).heap.size = y := by simpa using hy
                     omega)

/-- The machine's turn behind an access: what it tells. -/
def MV.told (v : MV) (lv : Value) (s : St) : MV := { v with log := lv, at_ := v.at_ + 1, d0 := s.kind, d1 := s.place, d2 := s.old, d3 := s.new }

section
variable {R : Res} {w0 w : World} {b : Nat} {k : MK} {v : MV} {l : List Nat} {qb : Nat} {P T : Int} {pb rb : Nat} {s : St} {pg : Nat} {ds : List Nat} {dn : Nat} {L : RL}

set_option maxRecDepth 100000 in
set_option maxHeartbeats 4000000 in
theorem m_tell (lR : Loc R) (h : Own (Sep (BO b (mObj k v)) (Sep (LogR v.log l) (Sep (MX qb P T pb rb s pg ds dn L) R))) w0 w) (hm : v.mem = .pointer (some ⟨qb, 0, none⟩)) (x : Nat) (hll : l.length < 1099511627776) (hat : v.at_ < 4611686018427387904) :
    Calls Tryz.prog 136 #[.pointer (some ⟨b, 0, none⟩), .int .u64 (x : Int)] w fun e w' => e = .returned (.tuple #[.int .u64 (x : Int), .bool true]) ∧ ∃ lv, Own (Sep (BO b (mObj k (v.told lv s))) (Sep (LogR lv (l ++ [x])) (Sep (MX qb P T pb rb s pg ds dn L) R))) w0 w' := by
  obtain ⟨i0, hi, hz0, hz1, hz2⟩ := info_parts infoW12
  have lM : Loc (Sep (MX qb P T pb rb s pg ds dn L) R) := Loc.mx.sep lR
  have lB : Loc (Sep (LogR v.log l) (Sep (MX qb P T pb rb s pg ds dn L) R)) := Loc.logR.sep lM
  have hb := Own.boAt h
  have hq := h.mhead (m := qb) (p := pb) (r := rb) (P := P) (T := T) (R := Sep (BO b (mObj k v)) (Sep (LogR v.log l) (Sep (S2 pb s) (Sep (RX rb pg ds dn L) R)))) (by unfold MX; ac_rfl)
  obtain ⟨wb, hS⟩ := h.mstore (p := pb) (s := s) (R := Sep (BO b (mObj k v)) (Sep (LogR v.log l) (Sep (MH qb pb rb P T) (Sep (RX rb pg ds dn L) R)))) (by unfold MX; ac_rfl)
  have c18 : w.cell? ⟨b, 18, none⟩ = some (.pointer (some ⟨qb, 0, none⟩)) := by rw [← hm]; exact cell_of_heap hb
  have cq0 : w.cell? ⟨qb, 0, none⟩ = some (.pointer (some ⟨pb, 0, none⟩)) := cell_of_heap hq
  have s1 : w.cell? ⟨pb, 1, none⟩ = some (.int .i64 s.kind) := cell_of_heap hS.head
  have s2 : w.cell? ⟨pb, 2, none⟩ = some (.int .i64 s.place) := cell_of_heap hS.head
  have s3 : w.cell? ⟨pb, 3, none⟩ = some (.int .u64 (s.old : Int)) := cell_of_heap hS.head
  have s4 : w.cell? ⟨pb, 4, none⟩ = some (.int .u64 (s.new : Int)) := cell_of_heap hS.head
  have b19 : w.cell? ⟨b, 19, none⟩ = some (.int .i64 v.d0) := cell_of_heap hb
  have b20 : w.cell? ⟨b, 20, none⟩ = some (.int .i64 v.d1) := cell_of_heap hb
  have b21 : w.cell? ⟨b, 21, none⟩ = some (.int .u64 (v.d2 : Int)) := cell_of_heap hb
  have b22 : w.cell? ⟨b, 22, none⟩ = some (.int .u64 (v.d3 : Int)) := cell_of_heap hb
  have fb : ∀ o, w.frozen? ⟨b, o, none⟩ = false := fun o => frozen_of_heap hb
  have O1 : Hid (Own (Sep (BO b (mObj k { v with d0 := s.kind, d1 := s.place, d2 := s.old, d3 := s.new })) (Sep (LogR v.log l) (Sep (MX qb P T pb rb s pg ds dn L) R))) w0 ((((w.setCell ⟨b, 19, none⟩ (.int .i64 s.kind)).setCell ⟨b, 20, none⟩ (.int .i64 s.place)).setCell ⟨b, 21, none⟩ (.int .u64 (s.old : Int))).setCell ⟨b, 22, none⟩ (.int .u64 (s.new : Int)))) :=
    hide (Own.boSet lB (Own.boSet lB (Own.boSet lB (Own.boSet lB h 19 (.int .i64 s.kind)) 20 (.int .i64 s.place)) 21 (.int .u64 (s.old : Int))) 22 (.int .u64 (s.new : Int)))
  clear h hb hq hS hm
  go_enter Tryz.func136, Tryz.ntmps136
  go_upto_region 2 with fail
  clear c18 cq0 s1 s2 s3 s4 b19 b20 b21 b22 fb
  generalize (((w.setCell ⟨b, 19, none⟩ (.int .i64 s.kind)).setCell ⟨b, 20, none⟩ (.int .i64 s.place)).setCell ⟨b, 21, none⟩ (.int .u64 (s.old : Int))).setCell ⟨b, 22, none⟩ (.int .u64 (s.new : Int)) = w1 at *
  have hrow := O1.out.log (R := Sep (BO b (mObj k { v with d0 := s.kind, d1 := s.place, d2 := s.old, d3 := s.new })) (Sep (MX qb P T pb rb s pg ds dn L) R)) (by ac_rfl)
  obtain ⟨va, vc, hv⟩ := ownsRow_slice hrow
  have c14 : w1.cell? ⟨b, 14, none⟩ = some (.slice va l.length vc) := by rw [← hv]; exact cell_of_heap (Own.boAt O1.out)
  have HROW : Hid (w1.ownsRow 0 25 1 (.slice va l.length vc) l.length (wordVals l)) := hide (by rw [← hv]; exact hrow)
  have HV := hide hv
  clear hrow hv
  go_wp2_with (at_builtin; refine wpList_append_own_at _ rfl _ _ 46 rfl 0 25 i0 (.int .u64 0) 1 8 Tryz.underlying46 hi hz0 hz1 hz2 rfl (by decide) _ _ _ rfl (HROW.out.alloc _) ⟨_, 0, none⟩ 1 1 [.int .u64 (x : Int)] rfl rfl (cell_one_new _ _ _) (by simp [Value.oneCell']) (by unfold maxLen; omega) (by omega) (by omega) ?_; intro lv w3 hown' hgrow' _ hblk; rw [← HV.out] at hgrow' hblk; have O3 := hide ((Own.logStep (Loc.bo.sep lM) (O1.out.cast BO.swap) hown' hgrow' hblk).cast BO.swap.symm); obtain ⟨la, lc, hlv⟩ := ownsRow_slice hown'; subst hlv; have hb3 := Own.boAt O3.out; have c14' : w3.cell? ⟨b, 14, none⟩ = some v.log := cell_of_heap hb3; rw [HV.out] at c14'; have f14 : ∀ o, w3.frozen? ⟨b, o, none⟩ = false := fun o => frozen_of_heap hb3; have O4 : Hid (Own (Sep (BO b (mObj k { v with log := .slice la (l.length + 1) lc, d0 := s.kind, d1 := s.place, d2 := s.old, d3 := s.new })) (Sep (LogR (.slice la (l.length + 1) lc) (l ++ [x])) (Sep (MX qb P T pb rb s pg ds dn L) R))) w0 (w3.setCell ⟨b, 14, none⟩ (.slice la (l.length + 1) lc))) := hide (Own.boSet (Loc.logR.sep lM) O3.out 14 (.slice la (l.length + 1) lc)); have c16 : (w3.setCell ⟨b, 14, none⟩ (.slice la (l.length + 1) lc)).cell? ⟨b, 16, none⟩ = some (.int .i64 (v.at_ : Int)) := cell_of_heap (Own.boAt O4.out); have f16 : ∀ o, (w3.setCell ⟨b, 14, none⟩ (.slice la (l.length + 1) lc)).frozen? ⟨b, o, none⟩ = false := fun o => frozen_of_heap (Own.boAt O4.out); have O5 : Hid (Own (Sep (BO b (mObj k (v.told (.slice la (l.length + 1) lc) s))) (Sep (LogR (.slice la (l.length + 1) lc) (l ++ [x])) (Sep (MX qb P T pb rb s pg ds dn L) R))) w0 ((w3.setCell ⟨b, 14, none⟩ (.slice la (l.length + 1) lc)).setCell ⟨b, 16, none⟩ (.int .i64 ((v.at_ : Int) + 1)))) := hide (Own.boSet (Loc.logR.sep lM) O4.out 16 (.int .i64 ((v.at_ : Int) + 1))))
  go_ret2
  exact ⟨rfl, _, O5.out⟩
end
end Go.Proofs.YtafamfjgehnddaaGreat

namespace Go.Proofs.YtafamfjgehnddaaGreat
open Go Go.RowKit

section
variable {R : Res} {w0 w : World} {b : Nat} {k : MK} {v : MV} {l : List Nat} {qb : Nat} {P T : Int} {pb rb : Nat} {s : St} {pg : Nat} {ds : List Nat} {dn : Nat} {L : RL}
theorem MX.toS : Sep (MX qb P T pb rb s pg ds dn L) R = Sep (S2 pb s) (Sep (MH qb pb rb P T) (Sep (RX rb pg ds dn L) R)) := by unfold MX; ac_rfl
theorem mxLoad (lR : Loc R) (h : Own (Sep (MX qb P T pb rb s pg ds dn L) R) w0 w) (i : Nat) (hi : i < s.words.length) :
    Calls Tryz.prog 176 #[.pointer (some ⟨pb, 0, none⟩), .int .i64 (i : Int)] w fun e w' => e = .returned (.tuple #[.int .u64 (s.words.getD i 0 : Nat), .int .i64 0]) ∧ Own (Sep (MX qb P T pb rb (s.load i) pg ds dn L) R) w0 w' := by
  obtain ⟨c, hS, q⟩ := (h.cast MX.toS).store2 (Loc.mh.sep (Loc.rx.sep lR))
  exact (r_load w pb c s hS i hi).mono fun _ _ ⟨e, h1, h2⟩ => ⟨e, (q h1 h2).cast MX.toS.symm⟩
theorem mxPut (lR : Loc R) (h : Own (Sep (MX qb P T pb rb s pg ds dn L) R) w0 w) (i : Nat) (hi : i < s.words.length) (x : Nat) (hx : x < 18446744073709551616) :
    Calls Tryz.prog 49 #[.pointer (some ⟨pb, 0, none⟩), .int .i64 (i : Int), .int .u64 (x : Int)] w fun e w' => e = .returned (.int .i64 0) ∧ Own (Sep (MX qb P T pb rb (s.put i x) pg ds dn L) R) w0 w' := by
  obtain ⟨c, hS, q⟩ := (h.cast MX.toS).store2 (Loc.mh.sep (Loc.rx.sep lR))
  exact (r_put w pb c s hS i hi x hx).mono fun _ _ ⟨e, h1, h2⟩ => ⟨e, (q h1 h2).cast MX.toS.symm⟩
theorem mxCas (lR : Loc R) (h : Own (Sep (MX qb P T pb rb s pg ds dn L) R) w0 w) (i : Nat) (hi : i < s.words.length) (o n : Nat) (hn : n < 18446744073709551616) :
    Calls Tryz.prog 179 #[.pointer (some ⟨pb, 0, none⟩), .int .i64 (i : Int), .int .u64 (o : Int), .int .u64 (n : Int)] w fun e w' => e = .returned (.tuple #[.int .u64 (s.words.getD i 0 : Nat), .int .i64 (s.casCode i o)]) ∧ Own (Sep (MX qb P T pb rb (s.cas i o n) pg ds dn L) R) w0 w' := by
  obtain ⟨c, hS, q⟩ := (h.cast MX.toS).store2 (Loc.mh.sep (Loc.rx.sep lR))
  exact (r_cas w pb c s hS i hi o n hn).mono fun _ _ ⟨e, h1, h2⟩ => ⟨e, (q h1 h2).cast MX.toS.symm⟩
theorem mxAdd (lR : Loc R) (h : Own (Sep (MX qb P T pb rb s pg ds dn L) R) w0 w) (i : Nat) (hi : i < s.words.length) (x : Nat) :
    Calls Tryz.prog 186 #[.pointer (some ⟨pb, 0, none⟩), .int .i64 (i : Int), .int .u64 (x : Int)] w fun e w' => e = .returned (.tuple #[.int .u64 (s.words.getD i 0 : Nat), .int .i64 0]) ∧ Own (Sep (MX qb P T pb rb (s.add i x) pg ds dn L) R) w0 w' := by
  obtain ⟨c, hS, q⟩ := (h.cast MX.toS).store2 (Loc.mh.sep (Loc.rx.sep lR))
  exact (r_add w pb c s hS i hi x).mono fun _ _ ⟨e, h1, h2⟩ => ⟨e, (q h1 h2).cast MX.toS.symm⟩


set_option maxHeartbeats 1000000 in
theorem m_load_old (lR : Loc R) (h : Own (Sep (BO b (mObj k v)) (Sep (LogR v.log l) (Sep (MX qb P T pb rb s pg ds dn L) R))) w0 w) (a : Nat) (ha : v.at_ = a) (hl : a < l.length) (hl2 : l.length < 4611686018427387904) (x : Nat) (hx : l.getD a 0 = x) (i : Int) :
    Calls Tryz.prog 129 #[.pointer (some ⟨b, 0, none⟩), .int .i64 i] w fun e w' => e = .returned (.tuple #[.int .u64 (x : Int), .bool true]) ∧ Own (Sep (BO b (mObj k { v with at_ := a + 1 })) (Sep (LogR v.log l) (Sep (MX qb P T pb rb s pg ds dn L) R))) w0 w' := by
  have HT := hide (m_told1 (Loc.mx.sep lR) h a ha hl hl2 x hx)
  clear h ha hl hx
  go_enter Tryz.func129, Tryz.ntmps129
  go_wp2_with fail
  refine HT.out.mono ?_
  rintro e w1 ⟨rfl, o1⟩
  have O1 := hide o1
  clear o1 HT
  go_wp2
  go_ret2
  exact ⟨rfl, O1.out⟩

set_option maxHeartbeats 1000000 in
theorem m_load_no (lR : Loc R) (h : Own (Sep (BO b (mObj k v)) (Sep (LogR v.log l) (Sep (MX qb P T pb rb s pg ds dn L) R))) w0 w) (a : Nat) (ha : v.at_ = a) (hl : l.length ≤ a) (hu : v.used = true) (i : Int) :
    Calls Tryz.prog 129 #[.pointer (some ⟨b, 0, none⟩), .int .i64 i] w fun e w' => e = .returned (.tuple #[.int .u64 0, .bool false]) ∧ Own (Sep (BO b (mObj k v)) (Sep (LogR v.log l) (Sep (MX qb P T pb rb s pg ds dn L) R))) w0 w' := by
  have HT := hide (m_told0 (Loc.mx.sep lR) h a ha hl)
  clear h ha hl
  go_enter Tryz.func129, Tryz.ntmps129
  go_wp2_with fail
  refine HT.out.mono ?_
  rintro e w1 ⟨rfl, o1⟩
  have O1 := hide o1
  clear o1 HT
  go_wp2_with fail
  refine (m_now0 O1.out hu).mono ?_
  rintro e w2 ⟨rfl, rfl⟩
  go_wp2
  go_ret2
  exact ⟨rfl, O1.out⟩

set_option maxHeartbeats 2000000 in
theorem m_load_now (lR : Loc R) (h : Own (Sep (BO b (mObj k v)) (Sep (LogR v.log l) (Sep (MX qb P T pb rb s pg ds dn L) R))) w0 w) (a : Nat) (ha : v.at_ = a) (hl : l.length ≤ a) (ha2 : a < 4611686018427387904) (hll : l.length < 1099511627776) (hu : v.used = false) (hm : v.mem = .pointer (some ⟨qb, 0, none⟩)) (i : Nat) (hi : i < s.words.length) (x : Nat) (hx : s.words.getD i 0 = x) (s' : St) (hs : (s.load i) = s') :
    Calls Tryz.prog 129 #[.pointer (some ⟨b, 0, none⟩), .int .i64 (i : Int)] w fun e w' => e = .returned (.tuple #[.int .u64 (x : Int), .bool true]) ∧ ∃ lv, Own (Sep (BO b (mObj k (({ v with used := true } : MV).told lv s'))) (Sep (LogR lv (l ++ [x])) (Sep (MX qb P T pb rb s' pg ds dn L) R))) w0 w' := by
  have HT := hide (m_told0 (Loc.mx.sep lR) h a ha hl)
  have HX := hide hx
  have HMM := hide hm
  have HAT := hide ha
  have lQ : Loc (Sep (BO b (mObj k { v with used := true })) (Sep (LogR v.log l) R)) := Loc.bo.sep (Loc.logR.sep lR)
  have q0 : w.cell? ⟨b, 18, none⟩ = some (.pointer (some ⟨qb, 0, none⟩)) := by rw [← hm]; exact cell_of_heap (Own.boAt h)
  clear h ha hl hx q0
  go_enter Tryz.func129, Tryz.ntmps129
  go_wp2_with fail
  refine HT.out.mono ?_
  rintro e w1 ⟨rfl, o1⟩
  have O1 := hide o1
  clear o1 HT
  go_wp2_with fail
  refine (m_now1 (Loc.logR.sep (Loc.mx.sep lR)) O1.out hu).mono ?_
  rintro e w2 ⟨rfl, o2⟩
  have O2 : Hid (Own (Sep (BO b (mObj k { v with used := true })) (Sep (LogR v.log l) (Sep (MX qb P T pb rb s pg ds dn L) R))) w0 w2) := hide o2
  clear o2 O1
  have c18 : w2.cell? ⟨b, 18, none⟩ = some (.pointer (some ⟨qb, 0, none⟩)) := by have := HMM.out; rw [← this]; exact cell_of_heap (Own.boAt O2.out)
  have cq : w2.cell? ⟨qb, 0, none⟩ = some (.pointer (some ⟨pb, 0, none⟩)) := cell_of_heap (O2.out.mhead (m := qb) (p := pb) (r := rb) (P := P) (T := T) (R := Sep (BO b (mObj k { v with used := true })) (Sep (LogR v.log l) (Sep (S2 pb s) (Sep (RX rb pg ds dn L) R)))) (by unfold MX; ac_rfl))
  go_wp2_with fail
  refine (mxLoad lQ (O2.out.cast (by ac_rfl)) i hi).mono ?_
  rintro e w3 ⟨rfl, o3⟩
  rw [HX.out]
  rw [hs] at o3
  have O3 := hide (o3.cast (R' := (Sep (BO b (mObj k { v with used := true })) (Sep (LogR v.log l) (Sep (MX qb P T pb rb s' pg ds dn L) R)))) (by ac_rfl))
  clear o3 O2 c18 cq
  have HTL := hide (m_tell (v := { v with used := true }) lR O3.out HMM.out x hll (by have := HAT.out; show v.at_ < _; omega))
  clear O3
  go_wp2_with fail
  refine HTL.out.mono ?_
  rintro e w4 ⟨rfl, lv, o4⟩
  have O4 := hide o4
  clear o4 HTL
  go_wp2
  go_ret2
  exact ⟨rfl, lv, O4.out⟩


set_option maxHeartbeats 1000000 in
theorem m_put_old (lR : Loc R) (h : Own (Sep (BO b (mObj k v)) (Sep (LogR v.log l) (Sep (MX qb P T pb rb s pg ds dn L) R))) w0 w) (a : Nat) (ha : v.at_ = a) (hl : a < l.length) (hl2 : l.length < 4611686018427387904) (x : Nat) (hx : l.getD a 0 = x) (i : Int) (y : Nat) :
    Calls Tryz.prog 88 #[.pointer (some ⟨b, 0, none⟩), .int .i64 i, .int .u64 (y : Int)] w fun e w' => e = .returned (.tuple #[.int .u64 (x : Int), .bool true]) ∧ Own (Sep (BO b (mObj k { v with at_ := a + 1 })) (Sep (LogR v.log l) (Sep (MX qb P T pb rb s pg ds dn L) R))) w0 w' := by
  have HT := hide (m_told1 (Loc.mx.sep lR) h a ha hl hl2 x hx)
  clear h ha hl hx
  go_enter Tryz.func88, Tryz.ntmps88
  go_wp2_with fail
  refine HT.out.mono ?_
  rintro e w1 ⟨rfl, o1⟩
  have O1 := hide o1
  clear o1 HT
  go_wp2
  go_ret2
  exact ⟨rfl, O1.out⟩

set_option maxHeartbeats 1000000 in
theorem m_put_no (lR : Loc R) (h : Own (Sep (BO b (mObj k v)) (Sep (LogR v.log l) (Sep (MX qb P T pb rb s pg ds dn L) R))) w0 w) (a : Nat) (ha : v.at_ = a) (hl : l.length ≤ a) (hu : v.used = true) (i : Int) (y : Nat) :
    Calls Tryz.prog 88 #[.pointer (some ⟨b, 0, none⟩), .int .i64 i, .int .u64 (y : Int)] w fun e w' => e = .returned (.tuple #[.int .u64 0, .bool false]) ∧ Own (Sep (BO b (mObj k v)) (Sep (LogR v.log l) (Sep (MX qb P T pb rb s pg ds dn L) R))) w0 w' := by
  have HT := hide (m_told0 (Loc.mx.sep lR) h a ha hl)
  clear h ha hl
  go_enter Tryz.func88, Tryz.ntmps88
  go_wp2_with fail
  refine HT.out.mono ?_
  rintro e w1 ⟨rfl, o1⟩
  have O1 := hide o1
  clear o1 HT
  go_wp2_with fail
  refine (m_now0 O1.out hu).mono ?_
  rintro e w2 ⟨rfl, rfl⟩
  go_wp2
  go_ret2
  exact ⟨rfl, O1.out⟩

set_option maxHeartbeats 2000000 in
theorem m_put_now (lR : Loc R) (h : Own (Sep (BO b (mObj k v)) (Sep (LogR v.log l) (Sep (MX qb P T pb rb s pg ds dn L) R))) w0 w) (a : Nat) (ha : v.at_ = a) (hl : l.length ≤ a) (ha2 : a < 4611686018427387904) (hll : l.length < 1099511627776) (hu : v.used = false) (hm : v.mem = .pointer (some ⟨qb, 0, none⟩)) (i : Nat) (hi : i < s.words.length) (y : Nat) (hy : y < 18446744073709551616) (x : Nat) (hx : s.words.getD i 0 = x) (s' : St) (hs : (s.put i y) = s') :
    Calls Tryz.prog 88 #[.pointer (some ⟨b, 0, none⟩), .int .i64 (i : Int), .int .u64 (y : Int)] w fun e w' => e = .returned (.tuple #[.int .u64 (x : Int), .bool true]) ∧ ∃ lv, Own (Sep (BO b (mObj k (({ v with used := true } : MV).told lv s'))) (Sep (LogR lv (l ++ [x])) (Sep (MX qb P T pb rb s' pg ds dn L) R))) w0 w' := by
  have HT := hide (m_told0 (Loc.mx.sep lR) h a ha hl)
  have HX := hide hx
  have HMM := hide hm
  have HAT := hide ha
  have lQ : Loc (Sep (BO b (mObj k { v with used := true })) (Sep (LogR v.log l) R)) := Loc.bo.sep (Loc.logR.sep lR)
  have q0 : w.cell? ⟨b, 18, none⟩ = some (.pointer (some ⟨qb, 0, none⟩)) := by rw [← hm]; exact cell_of_heap (Own.boAt h)
  clear h ha hl hx q0
  go_enter Tryz.func88, Tryz.ntmps88
  go_wp2_with fail
  refine HT.out.mono ?_
  rintro e w1 ⟨rfl, o1⟩
  have O1 := hide o1
  clear o1 HT
  go_wp2_with fail
  refine (m_now1 (Loc.logR.sep (Loc.mx.sep lR)) O1.out hu).mono ?_
  rintro e w2 ⟨rfl, o2⟩
  have O2 : Hid (Own (Sep (BO b (mObj k { v with used := true })) (Sep (LogR v.log l) (Sep (MX qb P T pb rb s pg ds dn L) R))) w0 w2) := hide o2
  clear o2 O1
  have c18 : w2.cell? ⟨b, 18, none⟩ = some (.pointer (some ⟨qb, 0, none⟩)) := by have := HMM.out; rw [← this]; exact cell_of_heap (Own.boAt O2.out)
  have cq : w2.cell? ⟨qb, 0, none⟩ = some (.pointer (some ⟨pb, 0, none⟩)) := cell_of_heap (O2.out.mhead (m := qb) (p := pb) (r := rb) (P := P) (T := T) (R := Sep (BO b (mObj k { v with used := true })) (Sep (LogR v.log l) (Sep (S2 pb s) (Sep (RX rb pg ds dn L) R)))) (by unfold MX; ac_rfl))
  go_wp2_with fail
  refine (mxPut lQ (O2.out.cast (by ac_rfl)) i hi y hy).mono ?_
  rintro e w3 ⟨rfl, o3⟩
  rw [hs] at o3
  have O3 := hide (o3.cast (R' := (Sep (BO b (mObj k { v with used := true })) (Sep (LogR v.log l) (Sep (MX qb P T pb rb s' pg ds dn L) R)))) (by ac_rfl))
  clear o3 O2 c18 cq
  obtain ⟨wb3, hS3⟩ := O3.out.mstore (p := pb) (s := s') (R := Sep (MH qb pb rb P T) (Sep (RX rb pg ds dn L) (Sep (BO b (mObj k { v with used := true })) (Sep (LogR v.log l) R)))) (by unfold MX; ac_rfl)
  have hq3 := O3.out.mhead (m := qb) (p := pb) (r := rb) (P := P) (T := T) (R := Sep (S2 pb (s')) (Sep (RX rb pg ds dn L) (Sep (BO b (mObj k { v with used := true })) (Sep (LogR v.log l) R)))) (by unfold MX; ac_rfl)
  have b18 : w3.cell? ⟨b, 18, none⟩ = some (.pointer (some ⟨qb, 0, none⟩)) := by rw [← HMM.out]; exact cell_of_heap (O3.out.has (m := b) (o := mObj k { v with used := true }) (R := Sep (MX qb P T pb rb (s') pg ds dn L) (Sep (LogR v.log l) R)) (by ac_rfl))
  have q0 : w3.cell? ⟨qb, 0, none⟩ = some (.pointer (some ⟨pb, 0, none⟩)) := cell_of_heap hq3
  have p3 : w3.cell? ⟨pb, 3, none⟩ = some (.int .u64 (x : Int)) := by
    have hold : s'.old = x := by rw [← hs]; exact HX.out
    rw [← hold]; exact cell_of_heap hS3.head
  clear hS3 hq3
  have HTL := hide (m_tell (v := { v with used := true }) lR O3.out HMM.out x hll (by have := HAT.out; show v.at_ < _; omega))
  clear O3
  go_wp2_with fail
  refine HTL.out.mono ?_
  rintro e w4 ⟨rfl, lv, o4⟩
  have O4 := hide o4
  clear o4 HTL
  go_wp2
  go_ret2
  exact ⟨rfl, lv, O4.out⟩


set_option maxHeartbeats 1000000 in
theorem m_cas_old (lR : Loc R) (h : Own (Sep (BO b (mObj k v)) (Sep (LogR v.log l) (Sep (MX qb P T pb rb s pg ds dn L) R))) w0 w) (a : Nat) (ha : v.at_ = a) (hl : a < l.length) (hl2 : l.length < 4611686018427387904) (x : Nat) (hx : l.getD a 0 = x) (i : Int) (o n : Nat) :
    Calls Tryz.prog 132 #[.pointer (some ⟨b, 0, none⟩), .int .i64 i, .int .u64 (o : Int), .int .u64 (n : Int)] w fun e w' => e = .returned (.tuple #[.bool (decide (x = o)), .bool true]) ∧ Own (Sep (BO b (mObj k { v with at_ := a + 1 })) (Sep (LogR v.log l) (Sep (MX qb P T pb rb s pg ds dn L) R))) w0 w' := by
  have HT := hide (m_told1 (Loc.mx.sep lR) h a ha hl hl2 x hx)
  clear h ha hl hx
  go_enter Tryz.func132, Tryz.ntmps132
  go_wp2_with fail
  refine HT.out.mono ?_
  rintro e w1 ⟨rfl, o1⟩
  have O1 := hide o1
  clear o1 HT
  by_cases e : x = o
  · have d : ((x : Int) == (o : Int)) = true := by simp [e]
    have dN : (x == o) = true := by simp [e]
    go_wp2
    go_ret2
    exact ⟨by simp [e], O1.out⟩
  · have d : ((x : Int) == (o : Int)) = false := by rw [beq_eq_false_iff_ne]; omega
    have dN : (x == o) = false := by rw [beq_eq_false_iff_ne]; exact e
    go_wp2
    go_ret2
    exact ⟨by simp [e], O1.out⟩

set_option maxHeartbeats 1000000 in
theorem m_cas_no (lR : Loc R) (h : Own (Sep (BO b (mObj k v)) (Sep (LogR v.log l) (Sep (MX qb P T pb rb s pg ds dn L) R))) w0 w) (a : Nat) (ha : v.at_ = a) (hl : l.length ≤ a) (hu : v.used = true) (i : Int) (o n : Nat) :
    Calls Tryz.prog 132 #[.pointer (some ⟨b, 0, none⟩), .int .i64 i, .int .u64 (o : Int), .int .u64 (n : Int)] w fun e w' => e = .returned (.tuple #[.bool false, .bool false]) ∧ Own (Sep (BO b (mObj k v)) (Sep (LogR v.log l) (Sep (MX qb P T pb rb s pg ds dn L) R))) w0 w' := by
  have HT := hide (m_told0 (Loc.mx.sep lR) h a ha hl)
  clear h ha hl
  go_enter Tryz.func132, Tryz.ntmps132
  go_wp2_with fail
  refine HT.out.mono ?_
  rintro e w1 ⟨rfl, o1⟩
  have O1 := hide o1
  clear o1 HT
  go_wp2_with fail
  refine (m_now0 O1.out hu).mono ?_
  rintro e w2 ⟨rfl, rfl⟩
  go_wp2
  go_ret2
  exact ⟨rfl, O1.out⟩

set_option maxHeartbeats 2000000 in
theorem m_cas_now (lR : Loc R) (h : Own (Sep (BO b (mObj k v)) (Sep (LogR v.log l) (Sep (MX qb P T pb rb s pg ds dn L) R))) w0 w) (a : Nat) (ha : v.at_ = a) (hl : l.length ≤ a) (ha2 : a < 4611686018427387904) (hll : l.length < 1099511627776) (hu : v.used = false) (hm : v.mem = .pointer (some ⟨qb, 0, none⟩)) (i : Nat) (hi : i < s.words.length) (o n : Nat) (hn : n < 18446744073709551616) (x : Nat) (hx : s.words.getD i 0 = x) (s' : St) (hs : (s.cas i o n) = s') :
    Calls Tryz.prog 132 #[.pointer (some ⟨b, 0, none⟩), .int .i64 (i : Int), .int .u64 (o : Int), .int .u64 (n : Int)] w fun e w' => e = .returned (.tuple #[.bool (decide (x = o)), .bool true]) ∧ ∃ lv, Own (Sep (BO b (mObj k (({ v with used := true } : MV).told lv s'))) (Sep (LogR lv (l ++ [x])) (Sep (MX qb P T pb rb s' pg ds dn L) R))) w0 w' := by
  have HT := hide (m_told0 (Loc.mx.sep lR) h a ha hl)
  have HX := hide hx
  have HMM := hide hm
  have HAT := hide ha
  have lQ : Loc (Sep (BO b (mObj k { v with used := true })) (Sep (LogR v.log l) R)) := Loc.bo.sep (Loc.logR.sep lR)
  have q0 : w.cell? ⟨b, 18, none⟩ = some (.pointer (some ⟨qb, 0, none⟩)) := by rw [← hm]; exact cell_of_heap (Own.boAt h)
  clear h ha hl hx q0
  go_enter Tryz.func132, Tryz.ntmps132
  go_wp2_with fail
  refine HT.out.mono ?_
  rintro e w1 ⟨rfl, o1⟩
  have O1 := hide o1
  clear o1 HT
  go_wp2_with fail
  refine (m_now1 (Loc.logR.sep (Loc.mx.sep lR)) O1.out hu).mono ?_
  rintro e w2 ⟨rfl, o2⟩
  have O2 : Hid (Own (Sep (BO b (mObj k { v with used := true })) (Sep (LogR v.log l) (Sep (MX qb P T pb rb s pg ds dn L) R))) w0 w2) := hide o2
  clear o2 O1
  have c18 : w2.cell? ⟨b, 18, none⟩ = some (.pointer (some ⟨qb, 0, none⟩)) := by have := HMM.out; rw [← this]; exact cell_of_heap (Own.boAt O2.out)
  have cq : w2.cell? ⟨qb, 0, none⟩ = some (.pointer (some ⟨pb, 0, none⟩)) := cell_of_heap (O2.out.mhead (m := qb) (p := pb) (r := rb) (P := P) (T := T) (R := Sep (BO b (mObj k { v with used := true })) (Sep (LogR v.log l) (Sep (S2 pb s) (Sep (RX rb pg ds dn L) R)))) (by unfold MX; ac_rfl))
  go_wp2_with fail
  refine (mxCas lQ (O2.out.cast (by ac_rfl)) i hi o n hn).mono ?_
  rintro e w3 ⟨rfl, o3⟩
  rw [HX.out]
  rw [hs] at o3
  have O3 := hide (o3.cast (R' := (Sep (BO b (mObj k { v with used := true })) (Sep (LogR v.log l) (Sep (MX qb P T pb rb s' pg ds dn L) R)))) (by ac_rfl))
  clear o3 O2 c18 cq
  have HTL := hide (m_tell (v := { v with used := true }) lR O3.out HMM.out x hll (by have := HAT.out; show v.at_ < _; omega))
  clear O3
  go_wp2_with fail
  refine HTL.out.mono ?_
  rintro e w4 ⟨rfl, lv, o4⟩
  have O4 := hide o4
  clear o4 HTL
  by_cases e : x = o
  · have d : ((x : Int) == (o : Int)) = true := by simp [e]
    have dN : (x == o) = true := by simp [e]
    go_wp2
    go_ret2
    exact ⟨by simp [e], lv, O4.out⟩
  · have d : ((x : Int) == (o : Int)) = false := by rw [beq_eq_false_iff_ne]; omega
    have dN : (x == o) = false := by rw [beq_eq_false_iff_ne]; exact e
    go_wp2
    go_ret2
    exact ⟨by simp [e], lv, O4.out⟩

end
end Go.Proofs.YtafamfjgehnddaaGreat

namespace Go.Proofs.YtafamfjgehnddaaGreat.Tg

/-- The head of tag t and page p. -/
def head (t : Nat) (p : Int) : Nat := t * 4294967296 + (p + 1).toNat
def make (t : Nat) (p : Int) : Nat × Bool := if -1 ≤ p ∧ p < 4096 then (head t p, true) else (0, false)
def low (x : Nat) : Nat := x % 4294967296
def page (x : Nat) : Int := if low x ≤ 4096 then (low x : Int) - 1 else -1
def tag (x : Nat) : Nat := x / 4294967296
def succ (t : Nat) : Nat := (t + 1) % 4294967296
def next (x : Nat) (p : Int) : Nat × Bool := make (succ (tag x)) p

theorem tag_lt (x : Nat) (h : x < 18446744073709551616) : tag x < 4294967296 := by unfold tag; omega
theorem low_lt (x : Nat) : low x < 4294967296 := by unfold low; omega
theorem succ_lt (t : Nat) : succ t < 4294967296 := by unfold succ; omega
theorem head_lt (t : Nat) (p : Int) (ht : t < 4294967296) (h1 : -1 ≤ p) (h2 : p < 4096) : head t p < 18446744073709551616 := by unfold head; omega
theorem tag_head (t : Nat) (p : Int) (h1 : -1 ≤ p) (h2 : p < 4096) : tag (head t p) = t := by unfold tag head; omega
theorem page_head (t : Nat) (p : Int) (h1 : -1 ≤ p) (h2 : p < 4096) : page (head t p) = p := by
  have e : low (head t p) = (p + 1).toNat := by unfold low head; omega
  unfold page
  rw [e, if_pos (by omega)]
  omega
theorem page_may (x : Nat) : -1 ≤ page x ∧ page x < 4096 := by
  unfold page
  split <;> omega
theorem page_low (x : Nat) (h : page x ≠ -1) : (low x : Int) = page x + 1 := by
  unfold page at h ⊢
  split at h
  · rename_i h1
    rw [if_pos h1]
    omega
  · exact absurd rfl h
theorem make_in (t : Nat) (p : Int) (h1 : -1 ≤ p) (h2 : p < 4096) : make t p = (head t p, true) := by unfold make; rw [if_pos ⟨h1, h2⟩]
theorem make_out (t : Nat) (p : Int) (h : ¬ (-1 ≤ p ∧ p < 4096)) : make t p = (0, false) := by unfold make; rw [if_neg h]
theorem make_may (t : Nat) (p : Int) : (make t p).2 = decide (-1 ≤ p ∧ p < 4096) := by
  unfold make
  split <;> simp_all
theorem or_head (t k : Nat) (hk : k < 4294967296) : t * 4294967296 ||| k = t * 4294967296 + k := by
  have h := Nat.shiftLeft_add_eq_or_of_lt (i := 32) (b := k) (by omega) t
  rw [Nat.shiftLeft_eq] at h
  exact h.symm

end Go.Proofs.YtafamfjgehnddaaGreat.Tg

namespace Go.Proofs.YtafamfjgehnddaaGreat
open Go.RowKit

theorem or_key (t : Nat) (p : Int) (ht : t < 4294967296) (h1 : -1 ≤ p) (h2 : p < 4096) :
    bits BinOp.or IntKind.u64 ((t : Int) * 4294967296) (p + 1) = (Tg.head t p : Int) := by
  obtain ⟨k, hk⟩ : ∃ k : Nat, p + 1 = (k : Int) := ⟨(p + 1).toNat, by omega⟩
  have e : (t : Int) * 4294967296 = ((t * 4294967296 : Nat) : Int) := by simp
  rw [hk, e, bits_or_u64_nat _ _ (by omega) (by omega), Tg.or_head t k (by omega)]
  unfold Tg.head
  omega

theorem make7 (t : Nat) (p : Int) (ht : t < 4294967296) (w : World) :
    Calls Tryz.prog 173 #[.int .u32 t, .int .i64 p] w fun e w' => e = .returned (.tuple #[.int .u64 (Tg.make t p).1, .bool (Tg.make t p).2]) ∧ w' = w := by
  by_cases h1 : -1 ≤ p
  · by_cases h2 : p < 4096
    · have HK := hide (or_key t p ht h1 h2)
      rw [Tg.make_in t p h1 h2]
      go_enter Tryz.func173, Tryz.ntmps173
      go_wp2
      go_ret2
      refine ⟨?_, rfl⟩
      rw [← HK.out]
      rfl
    · rw [Tg.make_out t p (by omega)]
      go_enter Tryz.func173, Tryz.ntmps173
      go_wp2
      go_ret2
      exact ⟨rfl, rfl⟩
  · rw [Tg.make_out t p (by omega)]
    go_enter Tryz.func173, Tryz.ntmps173
    go_wp2
    go_ret2
    exact ⟨rfl, rfl⟩

theorem rmake8 (t : Nat) (p : Int) (ht : t < 4294967296) (w : World) :
    Calls Tryz.prog 177 #[.int .u32 t, .int .i64 p] w fun e w' => e = .returned (.tuple #[.int .u64 (Tg.make t p).1, .bool (Tg.make t p).2]) ∧ w' = w := by
  by_cases h1 : -1 ≤ p
  · by_cases h2 : p < 4096
    · have HK := hide (or_key t p ht h1 h2)
      rw [Tg.make_in t p h1 h2]
      go_enter Tryz.func177, Tryz.ntmps177
      go_wp2
      go_ret2
      refine ⟨?_, rfl⟩
      rw [← HK.out]
      rfl
    · rw [Tg.make_out t p (by omega)]
      go_enter Tryz.func177, Tryz.ntmps177
      go_wp2
      go_ret2
      exact ⟨rfl, rfl⟩
  · rw [Tg.make_out t p (by omega)]
    go_enter Tryz.func177, Tryz.ntmps177
    go_wp2
    go_ret2
    exact ⟨rfl, rfl⟩

/-! ### Page, Tag -/

theorem field_low (x : Nat) (hx : x < 18446744073709551616) (w : World) :
    Calls Tryz.prog 65 #[.int .u64 x, .int .i64 0, .int .i64 32] w fun e w' => e = .returned (.int .u64 (Tg.low x)) ∧ ∃ q, w' = w.drewN q := by
  have h := field17 x hx 0 32 w (by omega)
  have e : fieldAns x 0 32 = Tg.low x := by
    unfold fieldAns
    rw [if_pos (by decide)]
    show x / 2 ^ 0 &&& (2 ^ 32 - 1) = _
    rw [Nat.and_two_pow_sub_one_eq_mod, Nat.pow_zero, Nat.div_one]
    rfl
  rw [e] at h
  exact h

theorem field_tag (x : Nat) (hx : x < 18446744073709551616) (w : World) :
    Calls Tryz.prog 65 #[.int .u64 x, .int .i64 32, .int .i64 32] w fun e w' => e = .returned (.int .u64 (Tg.tag x)) ∧ ∃ q, w' = w.drewN q := by
  have h := field17 x hx 32 32 w (by omega)
  have e : fieldAns x 32 32 = Tg.tag x := by
    unfold fieldAns
    rw [if_pos (by decide)]
    show x / 2 ^ 32 &&& (2 ^ 32 - 1) = _
    rw [Nat.and_two_pow_sub_one_eq_mod]
    have := Tg.tag_lt x hx
    unfold Tg.tag at *
    omega
  rw [e] at h
  exact h

theorem page11 (x : Nat) (hx : x < 18446744073709551616) (w : World) :
    Calls Tryz.prog 31 #[.int .u64 x] w fun e w' => e = .returned (.int .i64 (Tg.page x)) ∧ ∃ q, w' = w.drewN q := by
  have H := hide (fun w => field_low x hx w)
  have hl := Tg.low_lt x
  unfold Tg.page
  generalize Tg.low x = y at *
  by_cases h : y ≤ 4096
  · rw [if_pos h]
    go_enter Tryz.func31, Tryz.ntmps31
    go_wp2_with (go_at_call 65; refine (H.out _).mono ?_; rintro e w' ⟨rfl, q, rfl⟩)
    go_ret
    exact ⟨rfl, _, rfl⟩
  · rw [if_neg h]
    go_enter Tryz.func31, Tryz.ntmps31
    go_wp2_with (go_at_call 65; refine (H.out _).mono ?_; rintro e w' ⟨rfl, q, rfl⟩)
    go_ret
    exact ⟨rfl, _, rfl⟩

theorem tag13 (x : Nat) (hx : x < 18446744073709551616) (w : World) :
    Calls Tryz.prog 174 #[.int .u64 x] w fun e w' => e = .returned (.int .u32 (Tg.tag x)) ∧ ∃ q, w' = w.drewN q := by
  have H := hide (fun w => field_tag x hx w)
  have hl := Tg.tag_lt x hx
  generalize Tg.tag x = y at *
  go_enter Tryz.func174, Tryz.ntmps174
  go_wp2_with (go_at_call 65; refine (H.out _).mono ?_; rintro e w' ⟨rfl, q, rfl⟩)
  go_ret
  exact ⟨ret_int (by first | rfl | omega), _, rfl⟩

theorem next9 (x : Nat) (hx : x < 18446744073709551616) (p : Int) (w : World) :
    Calls Tryz.prog 126 #[.int .u64 x, .int .i64 p] w fun e w' => e = .returned (.tuple #[.int .u64 (Tg.next x p).1, .bool (Tg.next x p).2]) ∧ ∃ q, w' = w.drewN q := by
  have H := hide (fun w => tag13 x hx w)
  have hl := Tg.tag_lt x hx
  have M := hide (fun w => make7 (Tg.succ (Tg.tag x)) p (Tg.succ_lt _) w)
  have hs : ((Tg.succ (Tg.tag x) : Nat) : Int) = ((Tg.tag x : Int) + 1) % 4294967296 := by unfold Tg.succ; omega
  unfold Tg.next
  rw [hs] at M
  clear hs
  generalize Tg.make (Tg.succ (Tg.tag x)) p = a at *
  obtain ⟨a1, a2⟩ := a
  generalize Tg.tag x = y at *
  go_enter Tryz.func126, Tryz.ntmps126
  go_wp2_with (first | (go_at_call 174; refine (H.out _).mono ?_; rintro e w' ⟨rfl, q, rfl⟩) | (go_at_call 173; refine (M.out _).mono ?_; rintro e w' ⟨rfl, rfl⟩))
  go_ret2
  exact ⟨rfl, _, rfl⟩

/-! ### the document's -/

theorem rpage12 (x : Nat) (hx : x < 18446744073709551616) (w : World) :
    Calls Tryz.prog 35 #[.int .u64 x] w fun e w' => e = .returned (.int .i64 (Tg.page x)) ∧ w' = w := by
  have hy : ((x : Int) % 4294967296) = ((Tg.low x : Nat) : Int) := by unfold Tg.low; omega
  have HM : Hid ((x : Int).tmod 4294967296 = ((Tg.low x : Nat) : Int)) := by show _ = _; rw [Int.tmod_eq_emod_of_nonneg (by omega)]; exact hy
  have hl := Tg.low_lt x
  unfold Tg.page
  generalize Tg.low x = y at *
  by_cases h : y ≤ 4096
  · rw [if_pos h]
    go_enter Tryz.func35, Tryz.ntmps35
    go_wp2
    go_ret
    exact ⟨ret_int (by omega), rfl⟩
  · rw [if_neg h]
    go_enter Tryz.func35, Tryz.ntmps35
    go_wp2
    go_ret
    exact ⟨rfl, rfl⟩

theorem rtag14 (x : Nat) (hx : x < 18446744073709551616) (w : World) :
    Calls Tryz.prog 178 #[.int .u64 x] w fun e w' => e = .returned (.int .u32 (Tg.tag x)) ∧ w' = w := by
  have hl := Tg.tag_lt x hx
  have he : ((Tg.tag x : Nat) : Int) = (x : Int) / 4294967296 := by unfold Tg.tag; omega
  have HE := hide he
  generalize Tg.tag x = y at *
  clear he
  go_enter Tryz.func178, Tryz.ntmps178
  go_wp2
  go_ret
  exact ⟨ret_int (by have := HE.out; omega), rfl⟩

theorem rnext10 (x : Nat) (hx : x < 18446744073709551616) (p : Int) (w : World) :
    Calls Tryz.prog 131 #[.int .u64 x, .int .i64 p] w fun e w' => e = .returned (.tuple #[.int .u64 (Tg.next x p).1, .bool (Tg.next x p).2]) ∧ w' = w := by
  have H := hide (fun w => rtag14 x hx w)
  have hl := Tg.tag_lt x hx
  have M := hide (fun w => rmake8 (Tg.succ (Tg.tag x)) p (Tg.succ_lt _) w)
  have hs : ((Tg.succ (Tg.tag x) : Nat) : Int) = ((Tg.tag x : Int) + 1) % 4294967296 := by unfold Tg.succ; omega
  unfold Tg.next
  rw [hs] at M
  clear hs
  generalize Tg.make (Tg.succ (Tg.tag x)) p = a at *
  obtain ⟨a1, a2⟩ := a
  generalize Tg.tag x = y at *
  go_enter Tryz.func131, Tryz.ntmps131
  go_wp2_with (first | (go_at_call 178; refine (H.out _).mono ?_; rintro e w' ⟨rfl, rfl⟩) | (go_at_call 177; refine (M.out _).mono ?_; rintro e w' ⟨rfl, rfl⟩))
  go_ret2
  exact ⟨rfl, rfl⟩

/-! ### awake -/

end Go.Proofs.YtafamfjgehnddaaGreat

namespace Go.Proofs.YtafamfjgehnddaaGreat
open Go Go.RowKit

theorem m_word {R : Res} {w0 w : World} {b : Nat} {k : MK} {v : MV} (lR : Loc R) (h : Own (Sep (BO b (mObj k v)) R) w0 w) (kind p : Int) (x : Int) (hx : (if (Lay.page k.P k.T kind p).2 = true then (Lay.page k.P k.T kind p).1 else -1) = x) :
    Calls Tryz.prog 130 #[.pointer (some ⟨b, 0, none⟩), .int .i64 kind, .int .i64 p] w fun e w' => e = .returned (.int .i64 x) ∧ Own (Sep (BO b (mObj k v)) R) w0 w' := by
  have hb := Own.boAt h
  have c1 : w.cell? ⟨b, 1, none⟩ = some (.int .i64 k.P) := cell_of_heap hb
  have c2 : w.cell? ⟨b, 2, none⟩ = some (.int .i64 k.T) := cell_of_heap hb
  have N := hide (fun u => rlpage k.P k.T kind p u)
  have HO := hide h
  generalize Lay.page k.P k.T kind p = a at *
  obtain ⟨a1, a2⟩ := a
  clear h hb
  cases a2
  · rw [if_neg (by simp)] at hx
    subst hx
    go_enter Tryz.func130, Tryz.ntmps130
    go_wp2_with fail
    refine (N.out _).mono ?_
    rintro e w1 ⟨rfl, b1⟩
    have O1 := hide (HO.out.below (Loc.bo.sep lR) b1)
    go_wp2
    go_ret
    exact ⟨rfl, O1.out⟩
  · rw [if_pos rfl] at hx
    simp only at hx
    subst hx
    go_enter Tryz.func130, Tryz.ntmps130
    go_wp2_with fail
    refine (N.out _).mono ?_
    rintro e w1 ⟨rfl, b1⟩
    have O1 := hide (HO.out.below (Loc.bo.sep lR) b1)
    go_wp2
    go_ret
    exact ⟨rfl, O1.out⟩

/-- An attempt that was lost. -/
structure Att where
  x : Nat
  y : Nat
  z : Nat
def flat : List Att → List Nat
  | [] => []
  | a :: r => a.x :: a.y :: a.z :: flat r
theorem flat_len : ∀ A : List Att, (flat A).length = 3 * A.length
  | [] => rfl
  | a :: r => by have := flat_len r; simp only [flat, List.length_cons]; omega
theorem flat_snoc (a : Att) : ∀ A : List Att, flat (A ++ [a]) = flat A ++ [a.x, a.y, a.z]
  | [] => rfl
  | b :: r => by simp only [List.cons_append, flat, flat_snoc a r]
theorem flat_at : ∀ (A : List Att) (part : List Nat) (c : Nat) (h : c < A.length), (flat A ++ part).getD (3 * c) 0 = A[c].x ∧ (flat A ++ part).getD (3 * c + 1) 0 = A[c].y ∧ (flat A ++ part).getD (3 * c + 2) 0 = A[c].z
  | a :: r, part, 0, _ => ⟨rfl, rfl, rfl⟩
  | a :: r, part, c + 1, h => by
    have := flat_at r part c (by simpa using h)
    have e : 3 * (c + 1) = 3 * c + 3 := by omega
    rw [e]
    exact this
theorem flat_part : ∀ (A : List Att) (part : List Nat) (d : Nat), (flat A ++ part).getD (3 * A.length + d) 0 = part.getD d 0
  | [], part, d => by simp [flat]
  | a :: r, part, d => by
    have := flat_part r part d
    have e : 3 * (a :: r).length + d = (3 * r.length + d) + 3 := by simp only [List.length_cons]; omega
    rw [e]
    exact this
end Go.Proofs.YtafamfjgehnddaaGreat

namespace Go.Proofs.YtafamfjgehnddaaGreat
open Go Go.RowKit

/-- What a step leaves: what was told, what it did. -/
structure Left (v v' : MV) (lv : Value) (s' : St) : Prop where
  log : v'.log = lv
  done : v'.done = v.done
  d0 : v'.d0 = s'.kind
  d1 : v'.d1 = s'.place
  d2 : v'.d2 = s'.old
  d3 : v'.d3 = s'.new
end Go.Proofs.YtafamfjgehnddaaGreat

namespace Go.Proofs.YtafamfjgehnddaaGreat
open Go Go.RowKit

theorem MV.at0 {v : MV} (h : v.at_ = 0) : ({ v with at_ := 3 * 0 } : MV) = v := by cases v; simp_all
/-- What all attempts are like. -/
def Lost (A : List Att) : Prop := ∀ a ∈ A, a.x < 18446744073709551616 ∧ 0 ≤ Tg.page a.x ∧ a.z ≠ a.x

section
variable {R : Res} {w0 w : World} {b : Nat} {k : MK} {v : MV} {qb : Nat} {pb rb : Nat} {s : St} {pg : Nat} {ds : List Nat} {dn : Nat} {L : RL}

set_option maxRecDepth 100000 in
set_option maxHeartbeats 8000000 in
/-- Nothing of the last attempt was told: the head is loaded, which has no page. -/
theorem rpop0a (lR : Loc R) (A : List Att) (h : Own (Sep (BO b (mObj k v)) (Sep (LogR v.log (flat A ++ [])) (Sep (MX qb k.P k.T pb rb s pg ds dn L) R))) w0 w) (hat : v.at_ = 0) (hu : v.used = false) (hm : v.mem = .pointer (some ⟨qb, 0, none⟩)) (hA : Lost A) (hAl : A.length < 1000000) (i : Nat) (hi : i < s.words.length) (x : Nat) (hx : s.words.getD i 0 = x) (hxb : x < 18446744073709551616) (s' : St) (hs : s.load i = s') (pv : Int) (hpv : Tg.page x = pv) (hp : pv < 0) :
    Calls Tryz.prog 85 #[.pointer (some ⟨b, 0, none⟩), .int .i64 (i : Int), .int .i64 0] w fun e w' => e = .returned (.tuple #[.int .i64 (-1), .bool true]) ∧ ∃ lv v', Left v v' lv s' ∧ Own (Sep (BO b (mObj k v')) (Sep (LogR lv (flat A ++ [x])) (Sep (MX qb k.P k.T pb rb s' pg ds dn L) R))) w0 w' := by
  have HA := hide hA
  have HO := hide h
  have HM := hide hm
  have HU := hide hu
  have HX := hide hx
  have HS := hide hs
  obtain ⟨m, hml⟩ : ∃ m, A.length = m := ⟨_, rfl⟩
  have HML := hide hml
  have hfl : (flat A ++ []).length = 3 * m + 0 := by rw [List.length_append, flat_len, hml]; rfl
  have HFL := hide hfl
  have hm1 : m < 1000000 := by omega
  have HAT := hide (MV.at0 hat)
  clear h hA hm hu hat hx hs hAl hml hfl
  have HPG := hide (fun u => rpage12 x hxb u)
  rw [hpv] at HPG
  have dp : decide (pv < 0) = true := by simp; omega
  clear hpv hxb
  go_enter Tryz.func85, Tryz.ntmps85
  go_wp2
  go_loopg [8] m (fun g r8 wr => ∃ c : Nat, c ≤ m ∧ g = m - c ∧ Hid (Own (Sep (BO b (mObj k { v with at_ := 3 * c })) (Sep (LogR v.log (flat A ++ [])) (Sep (MX qb k.P k.T pb rb s pg ds dn L) R))) w0 wr))
  case atStart => exact ⟨0, by omega, by omega, by rw [HAT.out]; exact HO.out⟩
  case round =>
    obtain ⟨c, hc, rfl, hH⟩ := hrel
    by_cases hlt : c < m
    · have hcA : c < A.length := by rw [HML.out]; exact hlt
      obtain ⟨f0, f1, f2⟩ := flat_at A [] c hcA
      obtain ⟨z1, z2, z3⟩ := HA.out A[c] (List.getElem_mem hcA)
      generalize A[c] = a at *
      obtain ⟨ax, ay, az⟩ := a
      simp only at f0 f1 f2 z1 z2 z3
      obtain ⟨pa, hpa⟩ : ∃ pa, Tg.page ax = pa := ⟨_, rfl⟩
      have dpa : decide (pa < 0) = false := by simp; omega
      have HPG := hide (fun u => rpage12 ax z1 u)
      rw [hpa] at HPG
      have HNX := hide (fun p u => rnext10 ax z1 p u)
      obtain ⟨xw, hxw⟩ : ∃ xw, (if (Lay.page k.P k.T 11 pa).2 = true then (Lay.page k.P k.T 11 pa).1 else -1) = xw := ⟨_, rfl⟩
      have F0 := hide f0
      have F1 := hide f1
      have F2 := hide f2
      have dz : decide (az = ax) = false := by simp; exact z3
      have HXW := hide hxw
      clear f0 f1 f2 z1 z2 z3 hpa hxw hcA
      go_wp2_with fail
      refine (m_load_old lR hH.out (3 * c) rfl (by rw [HFL.out]; omega) (by rw [HFL.out]; omega) ax F0.out (i : Int)).mono ?_
      rintro e w1 ⟨rfl, o1⟩
      have O1 : Hid (Own (Sep (BO b (mObj k { v with at_ := 3 * c + 1 })) (Sep (LogR v.log (flat A ++ [])) (Sep (MX qb k.P k.T pb rb s pg ds dn L) R))) w0 w1) := hide o1
      clear o1 hH
      go_wp2_with fail
      refine (HPG.out _).mono ?_
      rintro e w2 ⟨rfl, rfl⟩
      go_wp2_with fail
      refine (m_word (Loc.logR.sep (Loc.mx.sep lR)) O1.out 11 pa xw HXW.out).mono ?_
      rintro e w3 ⟨rfl, o3⟩
      have O3 : Hid (Own (Sep (BO b (mObj k { v with at_ := 3 * c + 1 })) (Sep (LogR v.log (flat A ++ [])) (Sep (MX qb k.P k.T pb rb s pg ds dn L) R))) w0 w3) := hide o3
      clear o3 O1
      go_wp2_with fail
      refine (m_load_old lR O3.out (3 * c + 1) rfl (by rw [HFL.out]; omega) (by rw [HFL.out]; omega) ay F1.out xw).mono ?_
      rintro e w4 ⟨rfl, o4⟩
      have O4 : Hid (Own (Sep (BO b (mObj k { v with at_ := 3 * c + 2 })) (Sep (LogR v.log (flat A ++ [])) (Sep (MX qb k.P k.T pb rb s pg ds dn L) R))) w0 w4) := hide o4
      clear o4 O3
      go_wp2_with fail
      refine (HNX.out _ _).mono ?_
      rintro e w5 ⟨rfl, rfl⟩
      generalize Tg.next ax _ = nx
      obtain ⟨nx1, nx2⟩ := nx
      go_wp2_with fail
      refine (m_cas_old lR O4.out (3 * c + 2) rfl (by rw [HFL.out]; omega) (by rw [HFL.out]; omega) az F2.out (i : Int) ax nx1).mono ?_
      rintro e w6 ⟨rfl, o6⟩
      have O6 : Hid (Own (Sep (BO b (mObj k { v with at_ := 3 * (c + 1) })) (Sep (LogR v.log (flat A ++ [])) (Sep (MX qb k.P k.T pb rb s pg ds dn L) R))) w0 w6) := hide o6
      clear o6 O4
      go_wp2
      go_roundg (m - (c + 1))
      case measure => omega
      case rel => exact ⟨c + 1, by omega, rfl, O6.out⟩
    · have hcm : c = m := by omega
      subst hcm
      have hH' := hH.out
      go_wp2_with fail
      refine (m_load_now lR hH' (3 * c) rfl (by rw [HFL.out]; omega) (by omega) (by rw [HFL.out]; omega) HU.out HM.out i hi x HX.out s' HS.out).mono ?_
      rintro e w1 ⟨rfl, lv, o1⟩
      have O1 := hide o1
      clear o1 hH hH'
      rw [List.append_nil] at O1
      go_wp2_with fail
      refine (HPG.out _).mono ?_
      rintro e w2 ⟨rfl, rfl⟩
      go_wp2
      go_ret2
      refine ⟨rfl, lv, _, ?_, O1.out⟩
      exact ⟨rfl, rfl, rfl, rfl, rfl, rfl⟩

set_option maxRecDepth 100000 in
set_option maxHeartbeats 8000000 in
/-- Nothing of the last attempt was told: the head is loaded. -/
theorem rpop0b (lR : Loc R) (A : List Att) (h : Own (Sep (BO b (mObj k v)) (Sep (LogR v.log (flat A ++ [])) (Sep (MX qb k.P k.T pb rb s pg ds dn L) R))) w0 w) (hat : v.at_ = 0) (hu : v.used = false) (hm : v.mem = .pointer (some ⟨qb, 0, none⟩)) (hA : Lost A) (hAl : A.length < 1000000) (i : Nat) (hi : i < s.words.length) (x : Nat) (hx : s.words.getD i 0 = x) (hxb : x < 18446744073709551616) (s' : St) (hs : s.load i = s') (pv : Int) (hpv : Tg.page x = pv) (hp : 0 ≤ pv) :
    Calls Tryz.prog 85 #[.pointer (some ⟨b, 0, none⟩), .int .i64 (i : Int), .int .i64 0] w fun e w' => e = .returned (.tuple #[.int .i64 (-1), .bool false]) ∧ ∃ lv v', Left v v' lv s' ∧ Own (Sep (BO b (mObj k v')) (Sep (LogR lv (flat A ++ [x])) (Sep (MX qb k.P k.T pb rb s' pg ds dn L) R))) w0 w' := by
  have HA := hide hA
  have HO := hide h
  have HM := hide hm
  have HU := hide hu
  have HX := hide hx
  have HS := hide hs
  obtain ⟨m, hml⟩ : ∃ m, A.length = m := ⟨_, rfl⟩
  have HML := hide hml
  have hfl : (flat A ++ []).length = 3 * m + 0 := by rw [List.length_append, flat_len, hml]; rfl
  have HFL := hide hfl
  have hm1 : m < 1000000 := by omega
  have HAT := hide (MV.at0 hat)
  clear h hA hm hu hat hx hs hAl hml hfl
  have HPG := hide (fun u => rpage12 x hxb u)
  rw [hpv] at HPG
  have dp : decide (pv < 0) = false := by simp; omega
  obtain ⟨xw, hxw⟩ : ∃ xw, (if (Lay.page k.P k.T 11 pv).2 = true then (Lay.page k.P k.T 11 pv).1 else -1) = xw := ⟨_, rfl⟩
  have HXW := hide hxw
  clear hxw
  clear hpv hxb
  go_enter Tryz.func85, Tryz.ntmps85
  go_wp2
  go_loopg [8] m (fun g r8 wr => ∃ c : Nat, c ≤ m ∧ g = m - c ∧ Hid (Own (Sep (BO b (mObj k { v with at_ := 3 * c })) (Sep (LogR v.log (flat A ++ [])) (Sep (MX qb k.P k.T pb rb s pg ds dn L) R))) w0 wr))
  case atStart => exact ⟨0, by omega, by omega, by rw [HAT.out]; exact HO.out⟩
  case round =>
    obtain ⟨c, hc, rfl, hH⟩ := hrel
    by_cases hlt : c < m
    · have hcA : c < A.length := by rw [HML.out]; exact hlt
      obtain ⟨f0, f1, f2⟩ := flat_at A [] c hcA
      obtain ⟨z1, z2, z3⟩ := HA.out A[c] (List.getElem_mem hcA)
      generalize A[c] = a at *
      obtain ⟨ax, ay, az⟩ := a
      simp only at f0 f1 f2 z1 z2 z3
      obtain ⟨pa, hpa⟩ : ∃ pa, Tg.page ax = pa := ⟨_, rfl⟩
      have dpa : decide (pa < 0) = false := by simp; omega
      have HPG := hide (fun u => rpage12 ax z1 u)
      rw [hpa] at HPG
      have HNX := hide (fun p u => rnext10 ax z1 p u)
      obtain ⟨xw, hxw⟩ : ∃ xw, (if (Lay.page k.P k.T 11 pa).2 = true then (Lay.page k.P k.T 11 pa).1 else -1) = xw := ⟨_, rfl⟩
      have F0 := hide f0
      have F1 := hide f1
      have F2 := hide f2
      have dz : decide (az = ax) = false := by simp; exact z3
      have HXW := hide hxw
      clear f0 f1 f2 z1 z2 z3 hpa hxw hcA
      go_wp2_with fail
      refine (m_load_old lR hH.out (3 * c) rfl (by rw [HFL.out]; omega) (by rw [HFL.out]; omega) ax F0.out (i : Int)).mono ?_
      rintro e w1 ⟨rfl, o1⟩
      have O1 : Hid (Own (Sep (BO b (mObj k { v with at_ := 3 * c + 1 })) (Sep (LogR v.log (flat A ++ [])) (Sep (MX qb k.P k.T pb rb s pg ds dn L) R))) w0 w1) := hide o1
      clear o1 hH
      go_wp2_with fail
      refine (HPG.out _).mono ?_
      rintro e w2 ⟨rfl, rfl⟩
      go_wp2_with fail
      refine (m_word (Loc.logR.sep (Loc.mx.sep lR)) O1.out 11 pa xw HXW.out).mono ?_
      rintro e w3 ⟨rfl, o3⟩
      have O3 : Hid (Own (Sep (BO b (mObj k { v with at_ := 3 * c + 1 })) (Sep (LogR v.log (flat A ++ [])) (Sep (MX qb k.P k.T pb rb s pg ds dn L) R))) w0 w3) := hide o3
      clear o3 O1
      go_wp2_with fail
      refine (m_load_old lR O3.out (3 * c + 1) rfl (by rw [HFL.out]; omega) (by rw [HFL.out]; omega) ay F1.out xw).mono ?_
      rintro e w4 ⟨rfl, o4⟩
      have O4 : Hid (Own (Sep (BO b (mObj k { v with at_ := 3 * c + 2 })) (Sep (LogR v.log (flat A ++ [])) (Sep (MX qb k.P k.T pb rb s pg ds dn L) R))) w0 w4) := hide o4
      clear o4 O3
      go_wp2_with fail
      refine (HNX.out _ _).mono ?_
      rintro e w5 ⟨rfl, rfl⟩
      generalize Tg.next ax _ = nx
      obtain ⟨nx1, nx2⟩ := nx
      go_wp2_with fail
      refine (m_cas_old lR O4.out (3 * c + 2) rfl (by rw [HFL.out]; omega) (by rw [HFL.out]; omega) az F2.out (i : Int) ax nx1).mono ?_
      rintro e w6 ⟨rfl, o6⟩
      have O6 : Hid (Own (Sep (BO b (mObj k { v with at_ := 3 * (c + 1) })) (Sep (LogR v.log (flat A ++ [])) (Sep (MX qb k.P k.T pb rb s pg ds dn L) R))) w0 w6) := hide o6
      clear o6 O4
      go_wp2
      go_roundg (m - (c + 1))
      case measure => omega
      case rel => exact ⟨c + 1, by omega, rfl, O6.out⟩
    · have hcm : c = m := by omega
      subst hcm
      have hH' := hH.out
      go_wp2_with fail
      refine (m_load_now lR hH' (3 * c) rfl (by rw [HFL.out]; omega) (by omega) (by rw [HFL.out]; omega) HU.out HM.out i hi x HX.out s' HS.out).mono ?_
      rintro e w1 ⟨rfl, lv, o1⟩
      have O1 := hide o1
      clear o1 hH hH'
      rw [List.append_nil] at O1
      go_wp2_with fail
      refine (HPG.out _).mono ?_
      rintro e w2 ⟨rfl, rfl⟩
      go_wp2_with fail
      refine (m_word (Loc.logR.sep (Loc.mx.sep lR)) O1.out 11 pv xw HXW.out).mono ?_
      rintro e w3 ⟨rfl, o3⟩
      have O3 := hide o3
      clear o3 O1
      have hlen : (flat A ++ [x]).length = 3 * c + 1 := by have := HFL.out; simp at this ⊢; omega
      go_wp2_with fail
      refine (m_load_no lR O3.out (3 * c + 1) rfl (by rw [hlen]; omega) rfl xw).mono ?_
      rintro e w4 ⟨rfl, o4⟩
      have O4 := hide o4
      clear o4 O3 hlen
      go_wp2
      go_ret2
      refine ⟨rfl, lv, _, ?_, O4.out⟩
      exact ⟨rfl, rfl, rfl, rfl, rfl, rfl⟩

set_option maxRecDepth 100000 in
set_option maxHeartbeats 8000000 in
/-- The head was told: the word of its page is loaded. -/
theorem rpop1 (lR : Loc R) (A : List Att) (x : Nat) (h : Own (Sep (BO b (mObj k v)) (Sep (LogR v.log (flat A ++ [x])) (Sep (MX qb k.P k.T pb rb s pg ds dn L) R))) w0 w) (hat : v.at_ = 0) (hu : v.used = false) (hm : v.mem = .pointer (some ⟨qb, 0, none⟩)) (hA : Lost A) (hAl : A.length < 1000000) (i : Nat) (hxb : x < 18446744073709551616) (pv : Int) (hpv : Tg.page x = pv) (hp : 0 ≤ pv) (j : Nat) (hj : (if (Lay.page k.P k.T 11 pv).2 = true then (Lay.page k.P k.T 11 pv).1 else -1) = (j : Int)) (hjl : j < s.words.length) (y : Nat) (hx : s.words.getD j 0 = y) (s' : St) (hs : s.load j = s') :
    Calls Tryz.prog 85 #[.pointer (some ⟨b, 0, none⟩), .int .i64 (i : Int), .int .i64 0] w fun e w' => e = .returned (.tuple #[.int .i64 (-1), .bool false]) ∧ ∃ lv v', Left v v' lv s' ∧ Own (Sep (BO b (mObj k v')) (Sep (LogR lv (flat A ++ [x, y])) (Sep (MX qb k.P k.T pb rb s' pg ds dn L) R))) w0 w' := by
  have HA := hide hA
  have HO := hide h
  have HM := hide hm
  have HU := hide hu
  have HX := hide hx
  have HS := hide hs
  obtain ⟨m, hml⟩ : ∃ m, A.length = m := ⟨_, rfl⟩
  have HML := hide hml
  have hfl : (flat A ++ [x]).length = 3 * m + 1 := by rw [List.length_append, flat_len, hml]; rfl
  have HFL := hide hfl
  have hm1 : m < 1000000 := by omega
  have HAT := hide (MV.at0 hat)
  clear h hA hm hu hat hx hs hAl hml hfl
  have HPG := hide (fun u => rpage12 x hxb u)
  rw [hpv] at HPG
  have HNX0 := hide (fun p u => rnext10 x hxb p u)
  have dp : decide (pv < 0) = false := by simp; omega
  have HJ := hide hj
  clear hpv hxb hj
  go_enter Tryz.func85, Tryz.ntmps85
  go_wp2
  go_loopg [8] m (fun g r8 wr => ∃ c : Nat, c ≤ m ∧ g = m - c ∧ Hid (Own (Sep (BO b (mObj k { v with at_ := 3 * c })) (Sep (LogR v.log (flat A ++ [x])) (Sep (MX qb k.P k.T pb rb s pg ds dn L) R))) w0 wr))
  case atStart => exact ⟨0, by omega, by omega, by rw [HAT.out]; exact HO.out⟩
  case round =>
    obtain ⟨c, hc, rfl, hH⟩ := hrel
    by_cases hlt : c < m
    · have hcA : c < A.length := by rw [HML.out]; exact hlt
      obtain ⟨f0, f1, f2⟩ := flat_at A [x] c hcA
      obtain ⟨z1, z2, z3⟩ := HA.out A[c] (List.getElem_mem hcA)
      generalize A[c] = a at *
      obtain ⟨ax, ay, az⟩ := a
      simp only at f0 f1 f2 z1 z2 z3
      obtain ⟨pa, hpa⟩ : ∃ pa, Tg.page ax = pa := ⟨_, rfl⟩
      have dpa : decide (pa < 0) = false := by simp; omega
      have HPG := hide (fun u => rpage12 ax z1 u)
      rw [hpa] at HPG
      have HNX := hide (fun p u => rnext10 ax z1 p u)
      obtain ⟨xw, hxw⟩ : ∃ xw, (if (Lay.page k.P k.T 11 pa).2 = true then (Lay.page k.P k.T 11 pa).1 else -1) = xw := ⟨_, rfl⟩
      have F0 := hide f0
      have F1 := hide f1
      have F2 := hide f2
      have dz : decide (az = ax) = false := by simp; exact z3
      have HXW := hide hxw
      clear f0 f1 f2 z1 z2 z3 hpa hxw hcA
      go_wp2_with fail
      refine (m_load_old lR hH.out (3 * c) rfl (by rw [HFL.out]; omega) (by rw [HFL.out]; omega) ax F0.out (i : Int)).mono ?_
      rintro e w1 ⟨rfl, o1⟩
      have O1 : Hid (Own (Sep (BO b (mObj k { v with at_ := 3 * c + 1 })) (Sep (LogR v.log (flat A ++ [x])) (Sep (MX qb k.P k.T pb rb s pg ds dn L) R))) w0 w1) := hide o1
      clear o1 hH
      go_wp2_with fail
      refine (HPG.out _).mono ?_
      rintro e w2 ⟨rfl, rfl⟩
      go_wp2_with fail
      refine (m_word (Loc.logR.sep (Loc.mx.sep lR)) O1.out 11 pa xw HXW.out).mono ?_
      rintro e w3 ⟨rfl, o3⟩
      have O3 : Hid (Own (Sep (BO b (mObj k { v with at_ := 3 * c + 1 })) (Sep (LogR v.log (flat A ++ [x])) (Sep (MX qb k.P k.T pb rb s pg ds dn L) R))) w0 w3) := hide o3
      clear o3 O1
      go_wp2_with fail
      refine (m_load_old lR O3.out (3 * c + 1) rfl (by rw [HFL.out]; omega) (by rw [HFL.out]; omega) ay F1.out xw).mono ?_
      rintro e w4 ⟨rfl, o4⟩
      have O4 : Hid (Own (Sep (BO b (mObj k { v with at_ := 3 * c + 2 })) (Sep (LogR v.log (flat A ++ [x])) (Sep (MX qb k.P k.T pb rb s pg ds dn L) R))) w0 w4) := hide o4
      clear o4 O3
      go_wp2_with fail
      refine (HNX.out _ _).mono ?_
      rintro e w5 ⟨rfl, rfl⟩
      generalize Tg.next ax _ = nx
      obtain ⟨nx1, nx2⟩ := nx
      go_wp2_with fail
      refine (m_cas_old lR O4.out (3 * c + 2) rfl (by rw [HFL.out]; omega) (by rw [HFL.out]; omega) az F2.out (i : Int) ax nx1).mono ?_
      rintro e w6 ⟨rfl, o6⟩
      have O6 : Hid (Own (Sep (BO b (mObj k { v with at_ := 3 * (c + 1) })) (Sep (LogR v.log (flat A ++ [x])) (Sep (MX qb k.P k.T pb rb s pg ds dn L) R))) w0 w6) := hide o6
      clear o6 O4
      go_wp2
      go_roundg (m - (c + 1))
      case measure => omega
      case rel => exact ⟨c + 1, by omega, rfl, O6.out⟩
    · have hcm : c = m := by omega
      subst hcm
      have fp := flat_part A [x] 0
      rw [HML.out] at fp
      have FP := hide fp
      clear fp
      go_wp2_with fail
      refine (m_load_old lR hH.out (3 * c) rfl (by rw [HFL.out]; omega) (by rw [HFL.out]; omega) x FP.out (i : Int)).mono ?_
      rintro e w1 ⟨rfl, o1⟩
      have O1 : Hid (Own (Sep (BO b (mObj k { v with at_ := 3 * c + 1 })) (Sep (LogR v.log (flat A ++ [x])) (Sep (MX qb k.P k.T pb rb s pg ds dn L) R))) w0 w1) := hide o1
      clear o1 hH
      go_wp2_with fail
      refine (HPG.out _).mono ?_
      rintro e w2 ⟨rfl, rfl⟩
      go_wp2_with fail
      refine (m_word (Loc.logR.sep (Loc.mx.sep lR)) O1.out 11 pv (j : Int) HJ.out).mono ?_
      rintro e w3 ⟨rfl, o3⟩
      have O3 := hide o3
      clear o3 O1
      go_wp2_with fail
      refine (m_load_now lR O3.out (3 * c + 1) rfl (by rw [HFL.out]; omega) (by omega) (by rw [HFL.out]; omega) HU.out HM.out j hjl y HX.out s' HS.out).mono ?_
      rintro e w4 ⟨rfl, lv, o4⟩
      have O4 := hide o4
      clear o4 O3
      go_wp2_with fail
      refine (HNX0.out _ _).mono ?_
      rintro e w5 ⟨rfl, rfl⟩
      generalize Tg.next x _ = nx
      obtain ⟨nx1, nx2⟩ := nx
      have hlen : (flat A ++ [x] ++ [y]).length = 3 * c + 2 := by have := HFL.out; rw [List.length_append, this]; rfl
      go_wp2_with fail
      refine (m_cas_no lR O4.out (3 * c + 2) rfl (by rw [hlen]; omega) rfl (i : Int) x nx1).mono ?_
      rintro e w6 ⟨rfl, o6⟩
      have O6 := hide o6
      clear o6 O4 hlen
      rw [List.append_assoc] at O6
      go_wp2
      go_ret2
      refine ⟨rfl, lv, _, ?_, O6.out⟩
      exact ⟨rfl, rfl, rfl, rfl, rfl, rfl⟩

set_option maxRecDepth 100000 in
set_option maxHeartbeats 8000000 in
/-- The head and the word of its page were told: the swap, which is won. -/
theorem rpop2a (lR : Loc R) (A : List Att) (x y : Nat) (h : Own (Sep (BO b (mObj k v)) (Sep (LogR v.log (flat A ++ [x, y])) (Sep (MX qb k.P k.T pb rb s pg ds dn L) R))) w0 w) (hat : v.at_ = 0) (hu : v.used = false) (hm : v.mem = .pointer (some ⟨qb, 0, none⟩)) (hA : Lost A) (hAl : A.length < 1000000) (i : Nat) (hi : i < s.words.length) (hxb : x < 18446744073709551616) (hyb : y < 18446744073709551616) (pv : Int) (hpv : Tg.page x = pv) (hp : 0 ≤ pv) (z : Nat) (hx : s.words.getD i 0 = z) (hz : z = x) (n : Nat) (hn : (Tg.next x ((y : Int) % 4294967296 - 1)).1 = n) (s' : St) (hs : s.cas i x n = s') :
    Calls Tryz.prog 85 #[.pointer (some ⟨b, 0, none⟩), .int .i64 (i : Int), .int .i64 0] w fun e w' => e = .returned (.tuple #[.int .i64 pv, .bool true]) ∧ ∃ lv v', Left v v' lv s' ∧ Own (Sep (BO b (mObj k v')) (Sep (LogR lv (flat A ++ [x, y, z])) (Sep (MX qb k.P k.T pb rb s' pg ds dn L) R))) w0 w' := by
  have HA := hide hA
  have HO := hide h
  have HM := hide hm
  have HU := hide hu
  have HX := hide hx
  have HS := hide hs
  obtain ⟨m, hml⟩ : ∃ m, A.length = m := ⟨_, rfl⟩
  have HML := hide hml
  have hfl : (flat A ++ [x, y]).length = 3 * m + 2 := by rw [List.length_append, flat_len, hml]; rfl
  have HFL := hide hfl
  have hm1 : m < 1000000 := by omega
  have HAT := hide (MV.at0 hat)
  clear h hA hm hu hat hx hs hAl hml hfl
  have HPG := hide (fun u => rpage12 x hxb u)
  rw [hpv] at HPG
  have hnb : n < 18446744073709551616 := by
    rw [← hn]; unfold Tg.next Tg.make
    split
    · rename_i hh
      exact Tg.head_lt _ _ (Tg.succ_lt _) hh.1 hh.2
    · simp
  have HNX0 := hide (fun u => rnext10 x hxb ((y : Int) % 4294967296 - 1) u)
  generalize Tg.next x ((y : Int) % 4294967296 - 1) = nx0 at *
  obtain ⟨nxa, nxb⟩ := nx0
  simp only at hn
  subst hn
  have dp : decide (pv < 0) = false := by simp; omega
  have dz : decide (z = x) = true := by simp; exact hz
  obtain ⟨xw, hxw⟩ : ∃ xw, (if (Lay.page k.P k.T 11 pv).2 = true then (Lay.page k.P k.T 11 pv).1 else -1) = xw := ⟨_, rfl⟩
  have HJ := hide hxw
  have HNB := hide hnb
  clear hpv hxb hxw hnb hz
  go_enter Tryz.func85, Tryz.ntmps85
  go_wp2
  go_loopg [8] m (fun g r8 wr => ∃ c : Nat, c ≤ m ∧ g = m - c ∧ Hid (Own (Sep (BO b (mObj k { v with at_ := 3 * c })) (Sep (LogR v.log (flat A ++ [x, y])) (Sep (MX qb k.P k.T pb rb s pg ds dn L) R))) w0 wr))
  case atStart => exact ⟨0, by omega, by omega, by rw [HAT.out]; exact HO.out⟩
  case round =>
    obtain ⟨c, hc, rfl, hH⟩ := hrel
    by_cases hlt : c < m
    · have hcA : c < A.length := by rw [HML.out]; exact hlt
      obtain ⟨f0, f1, f2⟩ := flat_at A [x, y] c hcA
      obtain ⟨z1, z2, z3⟩ := HA.out A[c] (List.getElem_mem hcA)
      generalize A[c] = a at *
      obtain ⟨ax, ay, az⟩ := a
      simp only at f0 f1 f2 z1 z2 z3
      obtain ⟨pa, hpa⟩ : ∃ pa, Tg.page ax = pa := ⟨_, rfl⟩
      have dpa : decide (pa < 0) = false := by simp; omega
      have HPG := hide (fun u => rpage12 ax z1 u)
      rw [hpa] at HPG
      have HNX := hide (fun p u => rnext10 ax z1 p u)
      obtain ⟨xw, hxw⟩ : ∃ xw, (if (Lay.page k.P k.T 11 pa).2 = true then (Lay.page k.P k.T 11 pa).1 else -1) = xw := ⟨_, rfl⟩
      have F0 := hide f0
      have F1 := hide f1
      have F2 := hide f2
      have dz : decide (az = ax) = false := by simp; exact z3
      have HXW := hide hxw
      clear f0 f1 f2 z1 z2 z3 hpa hxw hcA
      go_wp2_with fail
      refine (m_load_old lR hH.out (3 * c) rfl (by rw [HFL.out]; omega) (by rw [HFL.out]; omega) ax F0.out (i : Int)).mono ?_
      rintro e w1 ⟨rfl, o1⟩
      have O1 : Hid (Own (Sep (BO b (mObj k { v with at_ := 3 * c + 1 })) (Sep (LogR v.log (flat A ++ [x, y])) (Sep (MX qb k.P k.T pb rb s pg ds dn L) R))) w0 w1) := hide o1
      clear o1 hH
      go_wp2_with fail
      refine (HPG.out _).mono ?_
      rintro e w2 ⟨rfl, rfl⟩
      go_wp2_with fail
      refine (m_word (Loc.logR.sep (Loc.mx.sep lR)) O1.out 11 pa xw HXW.out).mono ?_
      rintro e w3 ⟨rfl, o3⟩
      have O3 : Hid (Own (Sep (BO b (mObj k { v with at_ := 3 * c + 1 })) (Sep (LogR v.log (flat A ++ [x, y])) (Sep (MX qb k.P k.T pb rb s pg ds dn L) R))) w0 w3) := hide o3
      clear o3 O1
      go_wp2_with fail
      refine (m_load_old lR O3.out (3 * c + 1) rfl (by rw [HFL.out]; omega) (by rw [HFL.out]; omega) ay F1.out xw).mono ?_
      rintro e w4 ⟨rfl, o4⟩
      have O4 : Hid (Own (Sep (BO b (mObj k { v with at_ := 3 * c + 2 })) (Sep (LogR v.log (flat A ++ [x, y])) (Sep (MX qb k.P k.T pb rb s pg ds dn L) R))) w0 w4) := hide o4
      clear o4 O3
      go_wp2_with fail
      refine (HNX.out _ _).mono ?_
      rintro e w5 ⟨rfl, rfl⟩
      generalize Tg.next ax _ = nx
      obtain ⟨nx1, nx2⟩ := nx
      go_wp2_with fail
      refine (m_cas_old lR O4.out (3 * c + 2) rfl (by rw [HFL.out]; omega) (by rw [HFL.out]; omega) az F2.out (i : Int) ax nx1).mono ?_
      rintro e w6 ⟨rfl, o6⟩
      have O6 : Hid (Own (Sep (BO b (mObj k { v with at_ := 3 * (c + 1) })) (Sep (LogR v.log (flat A ++ [x, y])) (Sep (MX qb k.P k.T pb rb s pg ds dn L) R))) w0 w6) := hide o6
      clear o6 O4
      go_wp2
      go_roundg (m - (c + 1))
      case measure => omega
      case rel => exact ⟨c + 1, by omega, rfl, O6.out⟩
    · have hcm : c = m := by omega
      subst hcm
      have fp0 := flat_part A [x, y] 0
      have fp1 := flat_part A [x, y] 1
      rw [HML.out] at fp0 fp1
      have FP0 := hide fp0
      have FP1 := hide fp1
      clear fp0 fp1
      go_wp2_with fail
      refine (m_load_old lR hH.out (3 * c) rfl (by rw [HFL.out]; omega) (by rw [HFL.out]; omega) x FP0.out (i : Int)).mono ?_
      rintro e w1 ⟨rfl, o1⟩
      have O1 : Hid (Own (Sep (BO b (mObj k { v with at_ := 3 * c + 1 })) (Sep (LogR v.log (flat A ++ [x, y])) (Sep (MX qb k.P k.T pb rb s pg ds dn L) R))) w0 w1) := hide o1
      clear o1 hH
      go_wp2_with fail
      refine (HPG.out _).mono ?_
      rintro e w2 ⟨rfl, rfl⟩
      go_wp2_with fail
      refine (m_word (Loc.logR.sep (Loc.mx.sep lR)) O1.out 11 pv xw HJ.out).mono ?_
      rintro e w3 ⟨rfl, o3⟩
      have O3 : Hid (Own (Sep (BO b (mObj k { v with at_ := 3 * c + 1 })) (Sep (LogR v.log (flat A ++ [x, y])) (Sep (MX qb k.P k.T pb rb s pg ds dn L) R))) w0 w3) := hide o3
      clear o3 O1
      go_wp2_with fail
      refine (m_load_old lR O3.out (3 * c + 1) rfl (by rw [HFL.out]; omega) (by rw [HFL.out]; omega) y FP1.out xw).mono ?_
      rintro e w4 ⟨rfl, o4⟩
      have O4 : Hid (Own (Sep (BO b (mObj k { v with at_ := 3 * c + 2 })) (Sep (LogR v.log (flat A ++ [x, y])) (Sep (MX qb k.P k.T pb rb s pg ds dn L) R))) w0 w4) := hide o4
      clear o4 O3
      go_wp2_with fail
      refine (HNX0.out _).mono ?_
      rintro e w5 ⟨rfl, rfl⟩
      go_wp2_with fail
      refine (m_cas_now lR O4.out (3 * c + 2) rfl (by rw [HFL.out]; omega) (by omega) (by rw [HFL.out]; omega) HU.out HM.out i hi x nxa HNB.out z HX.out s' HS.out).mono ?_
      rintro e w6 ⟨rfl, lv, o6⟩
      have O6 := hide o6
      clear o6 O4
      rw [List.append_assoc] at O6
      go_wp2
      go_ret2
      refine ⟨rfl, lv, _, ?_, O6.out⟩
      exact ⟨rfl, rfl, rfl, rfl, rfl, rfl⟩

set_option maxRecDepth 100000 in
set_option maxHeartbeats 8000000 in
/-- The head and the word of its page were told: the swap, which is lost. -/
theorem rpop2b (lR : Loc R) (A : List Att) (x y : Nat) (h : Own (Sep (BO b (mObj k v)) (Sep (LogR v.log (flat A ++ [x, y])) (Sep (MX qb k.P k.T pb rb s pg ds dn L) R))) w0 w) (hat : v.at_ = 0) (hu : v.used = false) (hm : v.mem = .pointer (some ⟨qb, 0, none⟩)) (hA : Lost A) (hAl : A.length < 1000000) (i : Nat) (hi : i < s.words.length) (hxb : x < 18446744073709551616) (hyb : y < 18446744073709551616) (pv : Int) (hpv : Tg.page x = pv) (hp : 0 ≤ pv) (z : Nat) (hx : s.words.getD i 0 = z) (hz : z ≠ x) (n : Nat) (hn : (Tg.next x ((y : Int) % 4294967296 - 1)).1 = n) (s' : St) (hs : s.cas i x n = s') :
    Calls Tryz.prog 85 #[.pointer (some ⟨b, 0, none⟩), .int .i64 (i : Int), .int .i64 0] w fun e w' => e = .returned (.tuple #[.int .i64 (-1), .bool false]) ∧ ∃ lv v', Left v v' lv s' ∧ Own (Sep (BO b (mObj k v')) (Sep (LogR lv (flat A ++ [x, y, z])) (Sep (MX qb k.P k.T pb rb s' pg ds dn L) R))) w0 w' := by
  have HA := hide hA
  have HO := hide h
  have HM := hide hm
  have HU := hide hu
  have HX := hide hx
  have HS := hide hs
  obtain ⟨m, hml⟩ : ∃ m, A.length = m := ⟨_, rfl⟩
  have HML := hide hml
  have hfl : (flat A ++ [x, y]).length = 3 * m + 2 := by rw [List.length_append, flat_len, hml]; rfl
  have HFL := hide hfl
  have hm1 : m < 1000000 := by omega
  have HAT := hide (MV.at0 hat)
  clear h hA hm hu hat hx hs hAl hml hfl
  have HPG := hide (fun u => rpage12 x hxb u)
  rw [hpv] at HPG
  have hnb : n < 18446744073709551616 := by
    rw [← hn]; unfold Tg.next Tg.make
    split
    · rename_i hh
      exact Tg.head_lt _ _ (Tg.succ_lt _) hh.1 hh.2
    · simp
  have HNX0 := hide (fun u => rnext10 x hxb ((y : Int) % 4294967296 - 1) u)
  generalize Tg.next x ((y : Int) % 4294967296 - 1) = nx0 at *
  obtain ⟨nxa, nxb⟩ := nx0
  simp only at hn
  subst hn
  have dp : decide (pv < 0) = false := by simp; omega
  have dz : decide (z = x) = false := by simp; exact hz
  obtain ⟨xw, hxw⟩ : ∃ xw, (if (Lay.page k.P k.T 11 pv).2 = true then (Lay.page k.P k.T 11 pv).1 else -1) = xw := ⟨_, rfl⟩
  have HJ := hide hxw
  have HNB := hide hnb
  clear hpv hxb hxw hnb hz
  go_enter Tryz.func85, Tryz.ntmps85
  go_wp2
  go_loopg [8] (m + 1) (fun g r8 wr => (∃ c : Nat, c ≤ m ∧ g = m + 1 - c ∧ Hid (Own (Sep (BO b (mObj k { v with at_ := 3 * c })) (Sep (LogR v.log (flat A ++ [x, y])) (Sep (MX qb k.P k.T pb rb s pg ds dn L) R))) w0 wr)) ∨ (g = 0 ∧ ∃ lv v', Left v v' lv s' ∧ v'.used = true ∧ v'.at_ = 3 * (m + 1) ∧ Own (Sep (BO b (mObj k v')) (Sep (LogR lv (flat A ++ [x, y, z])) (Sep (MX qb k.P k.T pb rb s' pg ds dn L) R))) w0 wr))
  case atStart => exact .inl ⟨0, by omega, by omega, by rw [HAT.out]; exact HO.out⟩
  case round =>
    rcases hrel with hrel | ⟨rfl, lv, v', hL, hu', ha', o'⟩
    rotate_left
    · have HL := hide hL
      have O' : Hid (Own (Sep (BO b (mObj k v')) (Sep (LogR v'.log (flat A ++ [x, y, z])) (Sep (MX qb k.P k.T pb rb s' pg ds dn L) R))) w0 wr) := hide (by rw [hL.log]; exact o')
      have hlen : (flat A ++ [x, y, z]).length = 3 * (m + 1) := by have := HFL.out; simp at this ⊢; omega
      clear o' hL
      go_wp2_with fail
      refine (m_load_no lR O'.out (3 * (m + 1)) ha' (by rw [hlen]; omega) hu' (i : Int)).mono ?_
      rintro e w1 ⟨rfl, o1⟩
      have O1 := hide o1
      clear o1 O' hlen
      go_wp2
      go_ret2
      exact ⟨rfl, _, v', HL.out, by rw [← HL.out.log]; exact O1.out⟩
    obtain ⟨c, hc, rfl, hH⟩ := hrel
    by_cases hlt : c < m
    · have hcA : c < A.length := by rw [HML.out]; exact hlt
      obtain ⟨f0, f1, f2⟩ := flat_at A [x, y] c hcA
      obtain ⟨z1, z2, z3⟩ := HA.out A[c] (List.getElem_mem hcA)
      generalize A[c] = a at *
      obtain ⟨ax, ay, az⟩ := a
      simp only at f0 f1 f2 z1 z2 z3
      obtain ⟨pa, hpa⟩ : ∃ pa, Tg.page ax = pa := ⟨_, rfl⟩
      have dpa : decide (pa < 0) = false := by simp; omega
      have HPG := hide (fun u => rpage12 ax z1 u)
      rw [hpa] at HPG
      have HNX := hide (fun p u => rnext10 ax z1 p u)
      obtain ⟨xw, hxw⟩ : ∃ xw, (if (Lay.page k.P k.T 11 pa).2 = true then (Lay.page k.P k.T 11 pa).1 else -1) = xw := ⟨_, rfl⟩
      have F0 := hide f0
      have F1 := hide f1
      have F2 := hide f2
      have dz : decide (az = ax) = false := by simp; exact z3
      have HXW := hide hxw
      clear f0 f1 f2 z1 z2 z3 hpa hxw hcA
      go_wp2_with fail
      refine (m_load_old lR hH.out (3 * c) rfl (by rw [HFL.out]; omega) (by rw [HFL.out]; omega) ax F0.out (i : Int)).mono ?_
      rintro e w1 ⟨rfl, o1⟩
      have O1 : Hid (Own (Sep (BO b (mObj k { v with at_ := 3 * c + 1 })) (Sep (LogR v.log (flat A ++ [x, y])) (Sep (MX qb k.P k.T pb rb s pg ds dn L) R))) w0 w1) := hide o1
      clear o1 hH
      go_wp2_with fail
      refine (HPG.out _).mono ?_
      rintro e w2 ⟨rfl, rfl⟩
      go_wp2_with fail
      refine (m_word (Loc.logR.sep (Loc.mx.sep lR)) O1.out 11 pa xw HXW.out).mono ?_
      rintro e w3 ⟨rfl, o3⟩
      have O3 : Hid (Own (Sep (BO b (mObj k { v with at_ := 3 * c + 1 })) (Sep (LogR v.log (flat A ++ [x, y])) (Sep (MX qb k.P k.T pb rb s pg ds dn L) R))) w0 w3) := hide o3
      clear o3 O1
      go_wp2_with fail
      refine (m_load_old lR O3.out (3 * c + 1) rfl (by rw [HFL.out]; omega) (by rw [HFL.out]; omega) ay F1.out xw).mono ?_
      rintro e w4 ⟨rfl, o4⟩
      have O4 : Hid (Own (Sep (BO b (mObj k { v with at_ := 3 * c + 2 })) (Sep (LogR v.log (flat A ++ [x, y])) (Sep (MX qb k.P k.T pb rb s pg ds dn L) R))) w0 w4) := hide o4
      clear o4 O3
      go_wp2_with fail
      refine (HNX.out _ _).mono ?_
      rintro e w5 ⟨rfl, rfl⟩
      generalize Tg.next ax _ = nx
      obtain ⟨nx1, nx2⟩ := nx
      go_wp2_with fail
      refine (m_cas_old lR O4.out (3 * c + 2) rfl (by rw [HFL.out]; omega) (by rw [HFL.out]; omega) az F2.out (i : Int) ax nx1).mono ?_
      rintro e w6 ⟨rfl, o6⟩
      have O6 : Hid (Own (Sep (BO b (mObj k { v with at_ := 3 * (c + 1) })) (Sep (LogR v.log (flat A ++ [x, y])) (Sep (MX qb k.P k.T pb rb s pg ds dn L) R))) w0 w6) := hide o6
      clear o6 O4
      go_wp2
      go_roundg (m + 1 - (c + 1))
      case measure => omega
      case rel => exact .inl ⟨c + 1, by omega, rfl, O6.out⟩
    · have hcm : c = m := by omega
      subst hcm
      have fp0 := flat_part A [x, y] 0
      have fp1 := flat_part A [x, y] 1
      rw [HML.out] at fp0 fp1
      have FP0 := hide fp0
      have FP1 := hide fp1
      clear fp0 fp1
      go_wp2_with fail
      refine (m_load_old lR hH.out (3 * c) rfl (by rw [HFL.out]; omega) (by rw [HFL.out]; omega) x FP0.out (i : Int)).mono ?_
      rintro e w1 ⟨rfl, o1⟩
      have O1 : Hid (Own (Sep (BO b (mObj k { v with at_ := 3 * c + 1 })) (Sep (LogR v.log (flat A ++ [x, y])) (Sep (MX qb k.P k.T pb rb s pg ds dn L) R))) w0 w1) := hide o1
      clear o1 hH
      go_wp2_with fail
      refine (HPG.out _).mono ?_
      rintro e w2 ⟨rfl, rfl⟩
      go_wp2_with fail
      refine (m_word (Loc.logR.sep (Loc.mx.sep lR)) O1.out 11 pv xw HJ.out).mono ?_
      rintro e w3 ⟨rfl, o3⟩
      have O3 : Hid (Own (Sep (BO b (mObj k { v with at_ := 3 * c + 1 })) (Sep (LogR v.log (flat A ++ [x, y])) (Sep (MX qb k.P k.T pb rb s pg ds dn L) R))) w0 w3) := hide o3
      clear o3 O1
      go_wp2_with fail
      refine (m_load_old lR O3.out (3 * c + 1) rfl (by rw [HFL.out]; omega) (by rw [HFL.out]; omega) y FP1.out xw).mono ?_
      rintro e w4 ⟨rfl, o4⟩
      have O4 : Hid (Own (Sep (BO b (mObj k { v with at_ := 3 * c + 2 })) (Sep (LogR v.log (flat A ++ [x, y])) (Sep (MX qb k.P k.T pb rb s pg ds dn L) R))) w0 w4) := hide o4
      clear o4 O3
      go_wp2_with fail
      refine (HNX0.out _).mono ?_
      rintro e w5 ⟨rfl, rfl⟩
      go_wp2_with fail
      refine (m_cas_now lR O4.out (3 * c + 2) rfl (by rw [HFL.out]; omega) (by omega) (by rw [HFL.out]; omega) HU.out HM.out i hi x nxa HNB.out z HX.out s' HS.out).mono ?_
      rintro e w6 ⟨rfl, lv, o6⟩
      have O6 := hide o6
      clear o6 O4
      rw [List.append_assoc] at O6
      go_wp2
      go_roundg 0
      case measure => omega
      case rel =>
        refine .inr ⟨rfl, lv, _, ?_, ?_, ?_, O6.out⟩
        · exact ⟨rfl, rfl, rfl, rfl, rfl, rfl⟩
        · rfl
        · show 3 * c + 2 + 1 = 3 * (c + 1); omega

end
end Go.Proofs.YtafamfjgehnddaaGreat

namespace Go.Proofs.YtafamfjgehnddaaGreat
open Go Go.RowKit

theorem infoMark : (Tryz.prog.info? 231).map (fun i => (i.zero, i.size, i.bytes)) = some (some (.agg #[.int .i64 0, .int .i64 0, .int .i64 0, .int .i64 0, .int .i64 0, .int .u64 0]), 6, 48) := by kernel_rfl

section
variable {R : Res} {w0 w : World} {b : Nat} {k : MK} {v : MV}
set_option maxRecDepth 100000 in
set_option maxHeartbeats 4000000 in
theorem m_mark (lR : Loc R) (h : Own (Sep (BO b (mObj k v)) R) w0 w) (hu : v.used = true) (hmk : v.marks = .slice none 0 0) (hat : v.at_ < 4611686018427387904) (kind page n : Int) (mask : Nat) :
    Calls Tryz.prog 133 #[.pointer (some ⟨b, 0, none⟩), .int .i64 kind, .int .i64 page, .int .i64 n, .int .u64 (mask : Int)] w fun e w' => e = .returned (.tuple #[]) ∧ ∃ mv, Own (Sep (BO b (mObj k { v with marks := mv })) R) w0 w' := by
  obtain ⟨i0, hi, hz0, hz1, hz2⟩ := info_parts infoMark
  have hb := Own.boAt h
  have c17 : w.cell? ⟨b, 17, none⟩ = some (.bool true) := by rw [← hu]; exact cell_of_heap hb
  have U3 : ∀ u : Mem (BkAt b (mObj k v)), u.w'.cell? ⟨b, 3, none⟩ = some (.int .i64 k.thread) := fun u => cell_of_heap u.h
  have U16 : ∀ u : Mem (BkAt b (mObj k v)), u.w'.cell? ⟨b, 16, none⟩ = some (.int .i64 (v.at_ : Int)) := fun u => cell_of_heap u.h
  have U29 : ∀ u : Mem (BkAt b (mObj k v)), u.w'.cell? ⟨b, 29, none⟩ = some (.slice none 0 0) := fun u => by rw [← hmk]; exact cell_of_heap u.h
  have HO := hide h
  have HMK := hide hmk
  clear h hb hu hmk
  go_enter Tryz.func133, Tryz.ntmps133
  go_wp2
  have O1 := hide (HO.out.below (Loc.bo.sep lR) ((Alike.drewN w 1).below _))
  clear c17 HO
  have J1 : Hid (BkAt b (mObj k v) w.drew) := hide (Own.boAt O1.out)
  have hne : Nonempty (Mem (BkAt b (mObj k v))) := ⟨⟨_, J1.out⟩⟩
  refine startL 23 (J := BkAt b (mObj k v)) (by kernel_rfl) ?_
  refine stretchL (fuel := 5) (by kernel_rfl) (fun _ _ _ _ _ h => h) J1.out [0, 1, 2, 3, 4, 5, 6, 7, 8, 9, 10, 11, 12, 13, 14, 15, 16, 17, 18] (by kernel_rfl) ?_
  simp only [List.filterMap_cons, List.filterMap_nil, List.getElem?_toArray, List.getElem?_cons_zero, List.getElem?_cons_succ]
  show wpQuiet _ _ _ _ [_, _, _, _, _, _, _, _, _, _, _, _, _, _, _, _, _, _, _] _
  repeat (go_big_quiet_step (fail))
  refine wpQuiet_nil ?_
  refine writerL (i := 19) rfl (by kernel_rfl) rfl (fun K' hK => ?_)
  go_simp
  obtain ⟨XO, hXO⟩ : ∃ XO, (Obj.cells #[.int .i64 kind, .int .i64 k.thread, .int .i64 ((v.at_ : Int) - 1), .int .i64 page, .int .i64 n, .int .u64 (mask : Int)] 231) = XO := ⟨_, rfl⟩
  have hcs : ∀ j u, [Value.int .i64 kind, .int .i64 k.thread, .int .i64 ((v.at_ : Int) - 1), .int .i64 page, .int .i64 n, .int .u64 (mask : Int)][j]? = some u → (w.alloc XO).drew.cell? ((⟨w.heap.size, 0, none⟩ : Addr).add j) = some u := by
    intro j u hj
    have hat := heap_alloc_at w XO
    rw [← hXO] at hat
    have ea : (⟨w.heap.size, 0, none⟩ : Addr).add j = ⟨w.heap.size, j, none⟩ := by unfold Addr.add; split <;> simp_all
    rw [ea]
    have : (w.alloc XO).cell? ⟨w.heap.size, j, none⟩ = _ := cell_of_heap (by rw [← hXO]; exact hat)
    exact this.trans (by simpa using hj)
  have O2 : Hid (Own (Sep (BO b (mObj k v)) R) w0 (w.alloc XO).drew) := hide (O1.out.below (Loc.bo.sep lR) (grown1 w.drew XO))
  rw [hXO]
  clear O1
  refine hK _ _ (fun _ => Own.boAt O2.out) ?_
  clear hK K' J1
  generalize (w.alloc XO).drew = w2 at *
  generalize w.heap.size = g2 at *
  refine writerL (i := 20) rfl (by kernel_rfl) rfl (fun K' hK => ?_)
  refine oper_append _ _ _ 67 rfl 0 231 i0 (.agg #[.int .i64 0, .int .i64 0, .int .i64 0, .int .i64 0, .int .i64 0, .int .u64 0]) 6 48 Tryz.underlying67 hi hz0 hz1 hz2 rfl (by decide) (.slice none 0 0) 0 [] rfl (World.ownsRow_nil _ _ _ _) 1 _ (.inr ⟨⟨g2, 0, none⟩, 1, rfl, hcs⟩) rfl (by simp [Value.oneCell']) (by unfold maxLen; omega) (by omega) (by omega) ?_
  intro mv w3 hown hgr _
  have hb3 : Below w2.heap.size w2 w3 := ⟨hgr.os, hgr.tape, hgr.output, hgr.size, fun i hi => hgr.block i hi (by simp [Value.ownBlock])⟩
  have O3 := hide (O2.out.below (Loc.bo.sep lR) hb3)
  obtain ⟨ma, mc, hmv⟩ := ownsRow_slice hown
  subst hmv
  clear hown hgr hb3 O2 hcs
  have J3 : Hid (BkAt b (mObj k v) w3) := hide (Own.boAt O3.out)
  refine hK _ _ (fun _ => J3.out) ?_
  clear hK K'
  simp only [Act.put, List.getElem_toArray, List.getElem_cons_succ, List.getElem_cons_zero, List.setIfInBounds_toArray, List.set_cons_succ, List.set_cons_zero]
  refine writerL (i := 21) rfl (by kernel_rfl) rfl (fun K' hK => ?_)
  go_simp
  refine hK _ _ (fun _ => J3.out) ?_
  clear hK K'
  refine writerL (i := 22) rfl (by kernel_rfl) rfl (fun K' hK => ?_)
  go_simp
  refine hK _ _ (fun _ => J3.out) ?_
  clear hK K'
  have y29 : w3.cell? ⟨b, 29, none⟩ = some (.slice none 0 0) := by rw [← HMK.out]; exact cell_of_heap (Own.boAt O3.out)
  have f29 : ∀ o, w3.frozen? ⟨b, o, none⟩ = false := fun o => frozen_of_heap (Own.boAt O3.out)
  have O4 : Hid (Own (Sep (BO b (mObj k { v with marks := .slice ma (0 + 1) mc })) R) w0 (w3.setCell ⟨b, 29, none⟩ (.slice ma (0 + 1) mc))) := hide (Own.boSet lR O3.out 29 (.slice ma (0 + 1) mc))
  refine writerL (i := 23) rfl (by kernel_rfl) rfl (fun K' hK => ?_)
  go_simp
  refine hK _ _ (fun h => absurd rfl h) ?_
  clear hK K'
  refine doneL (by kernel_rfl) ?_
  go_wp2
  go_end0
  exact ⟨rfl, _, O4.out⟩
end
end Go.Proofs.YtafamfjgehnddaaGreat
