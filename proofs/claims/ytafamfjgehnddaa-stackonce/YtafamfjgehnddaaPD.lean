/- The document's machine in memory: what it is made of, what was told, what came of it. The document's machine: told, now. The document's machine: tell; load, put, cas: told, done now, or not. The document's machine: load, put, cas, add: told ahead of now, not to be done now, done now (printed by gen/docacc.py). What a step of the document's machine leaves. The document's machine: a word's place; what was told, attempt by attempt. The document's machine: pop, by what was told of the last attempt (printed by gen/docpop.py). The document's machine: mark, the first one of a step. -/
import Derived.Test.YtafamfjgehnddaaPY
import Derived.Test.YtafamfjgehnddaaBo
import Derived.RangeFuncBox
import Derived.Maps.AppendAt
import Derived.Deep.CutRange
import Derived.Deep.CutBlock
import Derived.Test.YtafamfjgehnddaaPG
import Derived.Test.YtafamfjgehnddaaLayRef
import Derived.Deep.LoopGhost
import Derived.Test.YtafamfjgehnddaaPhaseL
namespace Go.Proofs.Ytafamfjgehnddaa
open Go Go.RowKit

/-- What a machine is made of. -/
structure MK where
  what : Int
  P : Int
  T : Int
  thread : Int
  page : Int
  cls : Int
  pages : Int
  gen : Int
  head : Int
  size : Int
  most : Int
  mask : Nat
  drop : Bool
  list : Value
/-- What turns. -/
structure MV where
  log : Value
  done : Bool
  at_ : Nat
  used : Bool
  mem : Value
  d0 : Int
  d1 : Int
  d2 : Nat
  d3 : Nat
  got : Int
  code : Int
  n : Int
  gens : Int
  freed : Nat
  live : Value
  marks : Value
  full : Int
  e0 : Int
def mCells (k : MK) (v : MV) : Array Value :=
  #[.int .i64 k.what, .int .i64 k.P, .int .i64 k.T, .int .i64 k.thread, .int .i64 k.page, .int .i64 k.cls, .int .i64 k.pages, .int .i64 k.gen, .int .i64 k.head, .int .i64 k.size, .int .i64 k.most, .int .u64 (k.mask : Int), .bool k.drop, k.list,
    v.log, .bool v.done, .int .i64 (v.at_ : Int), .bool v.used, v.mem, .int .i64 v.d0, .int .i64 v.d1, .int .u64 (v.d2 : Int), .int .u64 (v.d3 : Int), .int .i64 v.got, .int .i64 v.code, .int .i64 v.n, .int .i64 v.gens, .int .u64 (v.freed : Int), v.live, v.marks, .int .i64 v.full, .int .i64 v.e0]
def mObj (k : MK) (v : MV) : Obj := .cells (mCells k v) 71 (0, 0)

/-- What was told, in a row by itself. -/
def LogR (v : Value) (l : List Nat) : Res := fun W G => W.ownsRow 0 48 1 v l.length (wordVals l) ∧ ∀ x, G x ↔ v.ownBlock = some x
theorem Loc.logR {v : Value} {l : List Nat} : Loc (LogR v l) := by
  refine ⟨fun {w w' M G} ⟨h1, h2⟩ o hn => ⟨⟨h1.1, ?_⟩, h2⟩, fun {w G x} ⟨h1, h2⟩ hx => ?_⟩
  · rcases h1.2 with h0 | ⟨g, cap, cur, e, hb, hg, h4⟩
    · exact .inl h0
    · exact .inr ⟨g, cap, cur, e, hb, (o.block g (lt_of_heap hg) (hn g ((h2 g).2 (by rw [e]; rfl)))).trans hg, h4⟩
  · rcases h1.2 with ⟨e, _⟩ | ⟨g, cap, cur, e, hb, hg, h4⟩
    · have := (h2 x).1 hx; rw [e] at this; cases this
    · have := (h2 x).1 hx
      rw [e] at this
      obtain rfl : g = x := by simpa [Value.ownBlock] using this
      exact lt_of_heap hg
theorem Own.log {R R' : Res} {w0 w : World} {v : Value} {l : List Nat} (h : Own R' w0 w) (e : R' = Sep (LogR v l) R) : w.ownsRow 0 48 1 v l.length (wordVals l) := by
  obtain ⟨_, ⟨_, _, a, _⟩, _⟩ := h.cast e
  exact a.1
theorem log_cell {W : World} {v : Value} {l : List Nat} (h : W.ownsRow 0 48 1 v l.length (wordVals l)) (i : Nat) (hi : i < l.length) : ∃ g c, v = .slice (some ⟨g, 0, none⟩) l.length c ∧ W.cell? ⟨g, i, none⟩ = some (.int .u64 (l.getD i 0 : Nat)) := by
  rcases h.2 with ⟨_, h0⟩ | ⟨g, cap, cur, e, hb, hg, _⟩
  · omega
  · have h' := h
    rw [e] at h'
    refine ⟨g, cap, e, ?_⟩
    rw [World.ownsRow.cellAt h' i (by omega)]
    simp [wordVals, hi]
end Go.Proofs.Ytafamfjgehnddaa

namespace Go.Proofs.Ytafamfjgehnddaa
open Go Go.RowKit

section
variable {R : Res} {w0 w : World} {b : Nat} {k : MK} {v : MV} {l : List Nat}

end
end Go.Proofs.Ytafamfjgehnddaa

namespace Go.Proofs.Ytafamfjgehnddaa
open Go Go.RowKit

theorem infoW12 : (Try.prog.info? 48).map (fun i => (i.zero, i.size, i.bytes)) = some (some (.int .u64 0), 1, 8) := by kernel_rfl
theorem only_of_grown {w w' : World} {row : Option Nat} (h : w.grownBy w' row) : Only (fun k => row = some k) w w' :=
  ⟨h.os, h.tape, h.output, h.size, fun k hk hn => h.block k hk (fun e => hn e.symm)⟩

theorem Own.logStep {R : Res} {w0 w w3 : World} {v lv : Value} {l : List Nat} {x : Nat} {tmp : Obj} (lR : Loc R) (h : Own (Sep (LogR v l) R) w0 w) (hown : w3.ownsRow 0 48 1 lv (l.length + 1) (wordVals l ++ [.int .u64 (x : Int)]))
    (hgrow : (w.alloc tmp).grownBy w3 v.ownBlock) (hblk : lv.ownBlock = v.ownBlock ∨ lv.ownBlock = some (w.alloc tmp).heap.size) : Own (Sep (LogR lv (l ++ [x])) R) w0 w3 := by
  obtain ⟨G, ⟨G1, G2, ⟨a1, a2⟩, r, c, d⟩, h2, h3⟩ := Own.below (Loc.logR.sep lR) h (grown1 w tmp)
  have e : wordVals (l ++ [x]) = wordVals l ++ [.int .u64 (x : Int)] := by simp [wordVals]
  refine Own.step (G1 := G1) (G1' := fun y => lv.ownBlock = some y) (G2 := G2) lR h3 (fun y hy => h2 y ((d y).2 hy)) r c ⟨?_, fun _ => Iff.rfl⟩ ((only_of_grown hgrow).mono (fun y _ hy => (a2 y).2 hy)) (fun y hy => ?_)
  · rw [List.length_append, List.length_singleton, e]; exact hown
  · rcases hblk with q | q
    · exact .inl ((a2 y).2 (q ▸ hy))
    · rw [q] at hy
      exact .inr (by have : (w.alloc tmp).heap.size = y := by simpa using hy
                     omega)

/-- The machine's turn behind an access: what it tells. -/
def MV.told (v : MV) (lv : Value) (s : St) : MV := { v with log := lv, at_ := v.at_ + 1, d0 := s.kind, d1 := s.place, d2 := s.old, d3 := s.new }

section
variable {R : Res} {w0 w : World} {b : Nat} {k : MK} {v : MV} {l : List Nat} {qb : Nat} {P T : Int} {pb rb : Nat} {s : St} {pg : Nat} {ds : List Nat} {dn : Nat} {L : RL}

end
end Go.Proofs.Ytafamfjgehnddaa

namespace Go.Proofs.Ytafamfjgehnddaa
open Go Go.RowKit

section
variable {R : Res} {w0 w : World} {b : Nat} {k : MK} {v : MV} {l : List Nat} {qb : Nat} {P T : Int} {pb rb : Nat} {s : St} {pg : Nat} {ds : List Nat} {dn : Nat} {L : RL}
theorem MX.toS : Sep (MX qb P T pb rb s pg ds dn L) R = Sep (S2 pb s) (Sep (MH qb pb rb P T) (Sep (RX rb pg ds dn L) R)) := by unfold MX; ac_rfl
end
end Go.Proofs.Ytafamfjgehnddaa

namespace Go.Proofs.Ytafamfjgehnddaa
open Go Go.RowKit

/-- What a step leaves: what was told, what it did. -/
structure Left (v v' : MV) (lv : Value) (s' : St) : Prop where
  log : v'.log = lv
  done : v'.done = v.done
  d0 : v'.d0 = s'.kind
  d1 : v'.d1 = s'.place
  d2 : v'.d2 = s'.old
  d3 : v'.d3 = s'.new
end Go.Proofs.Ytafamfjgehnddaa

namespace Go.Proofs.Ytafamfjgehnddaa
open Go Go.RowKit

/-- An attempt that was lost. -/
structure Att where
  x : Nat
  y : Nat
  z : Nat
def flat : List Att → List Nat
  | [] => []
  | a :: r => a.x :: a.y :: a.z :: flat r
theorem flat_len : ∀ A : List Att, (flat A).length = 3 * A.length
  | [] => rfl
  | a :: r => by have := flat_len r; simp only [flat, List.length_cons]; omega
theorem flat_snoc (a : Att) : ∀ A : List Att, flat (A ++ [a]) = flat A ++ [a.x, a.y, a.z]
  | [] => rfl
  | b :: r => by simp only [List.cons_append, flat, flat_snoc a r]
theorem flat_at : ∀ (A : List Att) (part : List Nat) (c : Nat) (h : c < A.length), (flat A ++ part).getD (3 * c) 0 = A[c].x ∧ (flat A ++ part).getD (3 * c + 1) 0 = A[c].y ∧ (flat A ++ part).getD (3 * c + 2) 0 = A[c].z
  | a :: r, part, 0, _ => ⟨rfl, rfl, rfl⟩
  | a :: r, part, c + 1, h => by
    have := flat_at r part c (by simpa using h)
    have e : 3 * (c + 1) = 3 * c + 3 := by omega
    rw [e]
    exact this
theorem flat_part : ∀ (A : List Att) (part : List Nat) (d : Nat), (flat A ++ part).getD (3 * A.length + d) 0 = part.getD d 0
  | [], part, d => by simp [flat]
  | a :: r, part, d => by
    have := flat_part r part d
    have e : 3 * (a :: r).length + d = (3 * r.length + d) + 3 := by simp only [List.length_cons]; omega
    rw [e]
    exact this
end Go.Proofs.Ytafamfjgehnddaa

namespace Go.Proofs.Ytafamfjgehnddaa
open Go Go.RowKit

theorem MV.at0 {v : MV} (h : v.at_ = 0) : ({ v with at_ := 3 * 0 } : MV) = v := by cases v; simp_all
/-- What all attempts are like. -/
def Lost (A : List Att) : Prop := ∀ a ∈ A, a.x < 18446744073709551616 ∧ 0 ≤ Tg.page a.x ∧ a.z ≠ a.x

section
variable {R : Res} {w0 w : World} {b : Nat} {k : MK} {v : MV} {qb : Nat} {pb rb : Nat} {s : St} {pg : Nat} {ds : List Nat} {dn : Nat} {L : RL}

end
end Go.Proofs.Ytafamfjgehnddaa

namespace Go.Proofs.Ytafamfjgehnddaa
open Go Go.RowKit

theorem infoMark : (Try.prog.info? 193).map (fun i => (i.zero, i.size, i.bytes)) = some (some (.agg #[.int .i64 0, .int .i64 0, .int .i64 0, .int .i64 0, .int .i64 0, .int .u64 0]), 6, 48) := by kernel_rfl

section
variable {R : Res} {w0 w : World} {b : Nat} {k : MK} {v : MV}
end
end Go.Proofs.Ytafamfjgehnddaa
