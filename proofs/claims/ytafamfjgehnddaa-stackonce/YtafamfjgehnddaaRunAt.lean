/- A head of runs, its tree, its row of draws, in memory. -/
import Derived.Test.YtafamfjgehnddaaTreEp
import Derived.Test.YtafamfjgehnddaaRunMath
namespace Go.Proofs.Ytafamfjgehnddaa
open Go.RowKit

/-- The numbers of ds lie where a points. -/
def DrawsAt (w : World) (a : Option Addr) (ds : List Nat) : Prop := ds ≠ [] → ∃ g, a = some ⟨g, 0, none⟩ ∧ g < w.heap.size ∧ ∀ i, i < ds.length → w.cell? ⟨g, i, none⟩ = some (.int .u32 ((ds.getD i 0 : Nat) : Int))

def rCells (pg t : Nat) (a : Option Addr) (k c dn : Nat) : Array Value := #[.int .i64 (pg : Int), .pointer (some ⟨t, 0, none⟩), .slice a k c, .int .i64 (dn : Int)]

structure RAt (w : World) (r t : Nat) (T : Tr Unit) (pg : Nat) (a : Option Addr) (c : Nat) (ds : List Nat) (dn : Nat) (L : RL) : Prop where
  head : w.heap[r]? = some (.cells (rCells pg t a ds.length c dn) 144 (0, 0))
  tree : TAtE w t T L
  out : ¬ Ftp t T r
  row : DrawsAt w a ds
  apart : ds ≠ [] → ∀ g, a = some ⟨g, 0, none⟩ → g ≠ r ∧ ¬ Ftp t T g

/-- The blocks of it. -/
def RF (r t : Nat) (T : Tr Unit) (a : Option Addr) (ds : List Nat) (x : Nat) : Prop := x = r ∨ Ftp t T x ∨ (ds ≠ [] ∧ a = some ⟨x, 0, none⟩)
/-- Those that calls turn. -/
def RM (r t : Nat) (T : Tr Unit) (x : Nat) : Prop := x = r ∨ Ftp t T x

theorem RAt.lt {w : World} {r t : Nat} {T : Tr Unit} {pg : Nat} {a : Option Addr} {c : Nat} {ds : List Nat} {dn : Nat} {L : RL} (h : RAt w r t T pg a c ds dn L) {x : Nat} (hx : RF r t T a ds x) : x < w.heap.size := by
  rcases hx with rfl | hx | ⟨h1, h2⟩
  · exact lt_of_heap h.head
  · exact h.tree.lt hx
  · obtain ⟨g, e, hg, _⟩ := h.row h1
    rw [h2] at e; cases e; exact hg
theorem DrawsAt.kept {w w' : World} {a : Option Addr} {ds : List Nat} {M : Nat → Prop} (h : DrawsAt w a ds) (o : Only M w w') (hn : ds ≠ [] → ∀ g, a = some ⟨g, 0, none⟩ → ¬ M g) : DrawsAt w' a ds := fun hd => by
  obtain ⟨g, e, hg, hc⟩ := h hd
  exact ⟨g, e, Nat.lt_of_lt_of_le hg o.size, fun i hi => (o.cell (p := ⟨g, i, none⟩) hg (hn hd g e)).trans (hc i hi)⟩
theorem RAt.kept {w w' : World} {r t : Nat} {T : Tr Unit} {pg : Nat} {a : Option Addr} {c : Nat} {ds : List Nat} {dn : Nat} {L : RL} {M : Nat → Prop} (h : RAt w r t T pg a c ds dn L) (o : Only M w w') (hn : ∀ x, RF r t T a ds x → ¬ M x) : RAt w' r t T pg a c ds dn L :=
  ⟨(o.block r (lt_of_heap h.head) (hn r (.inl rfl))).trans h.head, h.tree.kept o (fun x hx => hn x (.inr (.inl hx))), h.out, h.row.kept o (fun hd g e => hn g (.inr (.inr ⟨hd, e⟩))), h.apart⟩
theorem RAt.below {w w' : World} {r t : Nat} {T : Tr Unit} {pg : Nat} {a : Option Addr} {c : Nat} {ds : List Nat} {dn : Nat} {L : RL} (h : RAt w r t T pg a c ds dn L) (o : Below w.heap.size w w') : RAt w' r t T pg a c ds dn L :=
  h.kept (Below.only o (fun _ => False)) (fun _ _ h => h)
theorem RAt.alike {w w' : World} {r t : Nat} {T : Tr Unit} {pg : Nat} {a : Option Addr} {c : Nat} {ds : List Nat} {dn : Nat} {L : RL} (h : RAt w r t T pg a c ds dn L) (o : Alike w w') : RAt w' r t T pg a c ds dn L := h.below (o.below _)

/-- In w' they are so; but for their own blocks, and new ones, the worlds are one. -/
def RTurned (w w' : World) (r t : Nat) (T : Tr Unit) (pg : Nat) (a : Option Addr) (c : Nat) (ds : List Nat) (dn' : Nat) (L' : RL) : Prop :=
  ∃ T', RAt w' r t T' pg a c ds dn' L' ∧ Only (RM r t T) w w' ∧ ∀ x, RM r t T' x → RM r t T x ∨ w.heap.size ≤ x

theorem RTurned.same {w w' : World} {r t : Nat} {T : Tr Unit} {pg : Nat} {a : Option Addr} {c : Nat} {ds : List Nat} {dn : Nat} {L : RL} (h : RAt w r t T pg a c ds dn L) (b : Below w.heap.size w w') : RTurned w w' r t T pg a c ds dn L :=
  ⟨T, h.below b, Below.only b _, fun _ h => .inl h⟩
theorem RTurned.left {w u w' : World} {r t : Nat} {T : Tr Unit} {pg : Nat} {a : Option Addr} {c : Nat} {ds : List Nat} {dn : Nat} {L : RL} (b : Below w.heap.size w u) (h : RTurned u w' r t T pg a c ds dn L) : RTurned w w' r t T pg a c ds dn L := by
  obtain ⟨T', h1, h2, h3⟩ := h
  exact ⟨T', h1, (Below.only b _).trans h2, fun x hx => (h3 x hx).imp (fun e => e) (fun e => Nat.le_trans b.size e)⟩
theorem RTurned.right {w u w' : World} {r t : Nat} {T : Tr Unit} {pg : Nat} {a : Option Addr} {c : Nat} {ds : List Nat} {dn : Nat} {L : RL} (h : RTurned w u r t T pg a c ds dn L) (b : Below u.heap.size u w') : RTurned w w' r t T pg a c ds dn L := by
  obtain ⟨T', h1, h2, h3⟩ := h
  exact ⟨T', h1.below b, h2.trans (Below.only b _), h3⟩
theorem RTurned.trans {w u w' : World} {r t : Nat} {T : Tr Unit} {pg : Nat} {a : Option Addr} {c : Nat} {ds : List Nat} {dn dn' : Nat} {L L' : RL} (h : RTurned w u r t T pg a c ds dn L)
    (g : ∀ T', RAt u r t T' pg a c ds dn L → RTurned u w' r t T' pg a c ds dn' L') : RTurned w w' r t T pg a c ds dn' L' := by
  obtain ⟨T', h1, h2, h3⟩ := h
  obtain ⟨T2, k1, k2, k3⟩ := g T' h1
  refine ⟨T2, k1, h2.thenNew k2 (fun i hi hm => (h3 i hm).elim (fun e => e) (fun e => by omega)), fun x hx => ?_⟩
  rcases k3 x hx with q | q
  · exact h3 x q
  · exact .inr (Nat.le_trans h2.size q)
theorem RTurned.chain {w u w' : World} {r t : Nat} {T T' : Tr Unit} {pg : Nat} {a : Option Addr} {c : Nat} {ds : List Nat} {dn' : Nat} {L' : RL} (o : Only (RM r t T) w u) (m : ∀ x, RM r t T' x → RM r t T x ∨ w.heap.size ≤ x)
    (g : RTurned u w' r t T' pg a c ds dn' L') : RTurned w w' r t T pg a c ds dn' L' := by
  obtain ⟨T2, k1, k2, k3⟩ := g
  refine ⟨T2, k1, o.thenNew k2 (fun i hi hm => (m i hm).elim (fun e => e) (fun e => by omega)), fun x hx => ?_⟩
  rcases k3 x hx with q | q
  · exact m x q
  · exact .inr (Nat.le_trans o.size q)
/-- The tree alone is turned. -/
theorem RAt.tree' {w w' : World} {r t : Nat} {T : Tr Unit} {pg : Nat} {a : Option Addr} {c : Nat} {ds : List Nat} {dn : Nat} {L L' : RL} (h : RAt w r t T pg a c ds dn L) (g : TurnedE w w' t T L') : RTurned w w' r t T pg a c ds dn L' := by
  obtain ⟨T', g1, g2, g3⟩ := g
  have hr := lt_of_heap h.head
  refine ⟨T', ⟨(g2.block r hr h.out).trans h.head, g1, fun e => ?_, h.row.kept g2 (fun hd g e => (h.apart hd g e).2), fun hd g e => ⟨(h.apart hd g e).1, fun q => ?_⟩⟩, g2.mono (fun x _ hx => .inr hx), fun x hx => ?_⟩
  · rcases g3 r e with q | q
    · exact h.out q
    · omega
  · rcases g3 g q with q | q
    · exact (h.apart hd g e).2 q
    · have := h.lt (x := g) (.inr (.inr ⟨hd, e⟩)); omega
  · rcases hx with rfl | hx
    · exact .inl (.inl rfl)
    · exact (g3 x hx).imp .inr (fun q => q)
/-- One more draw is counted. -/
theorem RAt.count {w : World} {r t : Nat} {T : Tr Unit} {pg : Nat} {a : Option Addr} {c : Nat} {ds : List Nat} {dn : Nat} {L : RL} (h : RAt w r t T pg a c ds dn L) (m : Nat) : RTurned w (w.setCell ⟨r, 3, none⟩ (.int .i64 (m : Int))) r t T pg a c ds m L := by
  have o : Only (RM r t T) w (w.setCell ⟨r, 3, none⟩ (.int .i64 (m : Int))) := (Only.refl _ w).setCell (.inl (.inl rfl)) _
  have o' : Only (fun x => x = r) w (w.setCell ⟨r, 3, none⟩ (.int .i64 (m : Int))) := (Only.refl (fun x => x = r) w).setCell (p := ⟨r, 3, none⟩) (.inl rfl) _
  refine ⟨T, ⟨?_, h.tree.kept o' (fun x hx e => h.out (e ▸ hx)), h.out, h.row.kept o' (fun hd g e => (h.apart hd g e).1), h.apart⟩, o, fun _ hx => .inl hx⟩
  have := heap_setCell_at (o := 3) h.head (.int .i64 (m : Int))
  exact this

/-- Runs beside other things: pg pages, draws ds, dn of them taken, the runs L. -/
def RR (r pg : Nat) (ds : List Nat) (dn : Nat) (L : RL) : Res := fun w G => ∃ t T a c, RAt w r t T pg a c ds dn L ∧ ∀ x, G x ↔ RF r t T a ds x
theorem Loc.rr {r pg : Nat} {ds : List Nat} {dn : Nat} {L : RL} : Loc (RR r pg ds dn L) :=
  ⟨fun ⟨t, T, a, c, h, e⟩ o hn => ⟨t, T, a, c, h.kept o (fun x hx => hn x ((e x).2 hx)), e⟩, fun ⟨_, _, _, _, h, e⟩ hx => h.lt ((e _).1 hx)⟩
theorem Own.runs {r pg : Nat} {ds : List Nat} {dn : Nat} {L : RL} {R : Res} {w0 w : World} (l : Loc R) (h : Own (Sep (RR r pg ds dn L) R) w0 w) :
    ∃ t T a c, RAt w r t T pg a c ds dn L ∧ ∀ {w' dn' L'}, RTurned w w' r t T pg a c ds dn' L' → Own (Sep (RR r pg ds dn' L') R) w0 w' := by
  obtain ⟨G, ⟨G1, G2, ⟨t, T, a, c, h1, e⟩, b, s, d⟩, h2, h3⟩ := h
  refine ⟨t, T, a, c, h1, fun {w' dn' L'} ⟨T', g1, g2, g3⟩ => ?_⟩
  refine Own.step (G1 := G1) (G1' := RF r t T' a ds) (G2 := G2) l h3 (fun x hx => h2 x ((d x).2 hx)) b s ⟨t, T', a, c, g1, fun _ => Iff.rfl⟩ (g2.mono (fun x _ hx => (e x).2 (hx.elim .inl (fun q => .inr (.inl q))))) (fun x hx => ?_)
  rcases hx with rfl | hx | hx
  · exact .inl ((e _).2 (.inl rfl))
  · rcases g3 x (.inr hx) with q | q
    · exact .inl ((e x).2 (q.elim .inl (fun q => .inr (.inl q))))
    · exact .inr q
  · exact .inl ((e x).2 (.inr (.inr hx)))
theorem Own.runsNew {r pg : Nat} {ds : List Nat} {dn : Nat} {L : RL} {R : Res} {w0 w w' : World} (l : Loc R) (h : Own R w0 w) {t : Nat} {T : Tr Unit} {a : Option Addr} {c : Nat} (hR : RAt w' r t T pg a c ds dn L) (hn : ∀ x, RF r t T a ds x → w.heap.size ≤ x) (b : Below w.heap.size w w') : Own (Sep (RR r pg ds dn L) R) w0 w' := by
  obtain ⟨G, h1, h2, h3⟩ := h
  refine ⟨fun x => RF r t T a ds x ∨ G x, ⟨RF r t T a ds, G, ⟨t, T, a, c, hR, fun _ => Iff.rfl⟩, l.kept h1 (Below.only b (fun _ => False)) (fun _ _ h => h), fun x hx q => ?_, fun _ => Iff.rfl⟩, fun x hx => ?_, h3.trans (b.mono h3.size)⟩
  · have := l.lt h1 q; have := hn x hx; omega
  · rcases hx with hx | hx
    · exact Nat.le_trans h3.size (hn x hx)
    · exact h2 x hx
end Go.Proofs.Ytafamfjgehnddaa
