/- The document's tree beside other things (in a block of its own). -/
import Derived.Test.YthcfmpjmgheieaaDShapeT
namespace Go.Proofs.Ythcfmpjmgheieaa
open Go.RowKit

theorem own_lt {w : World} {base e size n : Nat} {v : Value} {xs : List Value} (h : w.ownsRow base e size v n xs) {x : Nat} (hx : v.ownBlock = some x) : base ≤ x ∧ x < w.heap.size := by
  rcases h.2 with ⟨h0, _⟩ | ⟨g, cap, cur, h1, h2, h3, h4⟩
  · rw [h0] at hx; simp [Value.ownBlock] at hx
  · rw [h1] at hx; simp only [Value.ownBlock, Option.some.injEq] at hx; rw [← hx]; exact ⟨h2, lt_of_heap h3⟩
theorem ownsRow_kept {w w' : World} {base base' e size n : Nat} {v : Value} {xs : List Value} (h : w.ownsRow base e size v n xs) (hb : base' ≤ base) (o : ∀ x, v.ownBlock = some x → x < w.heap.size → w'.heap[x]? = w.heap[x]?) : w'.ownsRow base' e size v n xs := by
  refine ⟨h.1, ?_⟩
  rcases h.2 with h0 | ⟨g, cap, cur, h1, h2, h3, h4⟩
  · exact .inl h0
  · exact .inr ⟨g, cap, cur, h1, by omega, (o g (by rw [h1]; rfl) (lt_of_heap h3)).trans h3, h4⟩
theorem DAt.kept {w w' : World} {r o : Nat} {v : Value} {L : List (It Int)} {M : Nat → Prop} (h : DAt w r o v L) (k : Only M w w') (hr : ¬ M r) (hv : ∀ x, v.ownBlock = some x → ¬ M x) : DAt w' r o v L := by
  have e := k.block r h.lt hr
  exact ⟨(World.cell?_of_block (a := ⟨r, o, none⟩) e).trans h.head, Nat.lt_of_lt_of_le h.lt k.size, by have := h.froz; unfold World.frozen? at this ⊢; rw [e]; exact this, ownsRow_kept h.row (Nat.le_refl _) (fun x hx hl => k.block x hl (hv x hx)), h.ne, h.ris⟩
theorem DAt.below {w w' : World} {r o : Nat} {v : Value} {L : List (It Int)} (h : DAt w r o v L) (b : Below w.heap.size w w') : DAt w' r o v L :=
  h.kept (Below.only b (fun _ => False)) (fun h => h) (fun _ _ h => h)
/-- A row of one's own is laid in the head. -/
theorem DAt.set {w W : World} {r o : Nat} {v v' : Value} {L L' : List (It Int)} {n : Nat} (h : DAt w r o v L) (b : Below w.heap.size w W) (hrow : W.ownsRow w.heap.size 132 3 v' n (itemVals L')) (hn : L'.length = n) (hr : Rising L') : DAt (W.setCell ⟨r, o, none⟩ v') r o v' L' := by
  have hc : W.cell? ⟨r, o, none⟩ = some v := (b.cell (p := ⟨r, o, none⟩) h.lt).trans h.head
  refine ⟨World.cell?_setCell_same _ _ _ hc, by rw [setCell_size]; exact Nat.lt_of_lt_of_le h.lt b.size, ?_, ?_, ?_, hr⟩
  · rw [World.frozen?_setCell, b.frozen (p := ⟨r, o, none⟩) h.lt]; exact h.froz
  · rw [hn]
    exact ownsRow_kept hrow (Nat.zero_le _) (fun x hx _ => Below.heap_setCell _ _ _ _ (by have := (own_lt hrow hx).1; have := h.lt; simp; omega))
  · intro hx; have := (own_lt hrow hx).1; have := h.lt; omega
theorem set_only {w W : World} {r o : Nat} {v' : Value} (b : Below w.heap.size w W) {M : Nat → Prop} (hM : M r) : Only M w (W.setCell ⟨r, o, none⟩ v') := (Below.only b M).setCell (.inl hM) v'
/-- The document's tree at block r, of the items L. -/
def RD (r : Nat) (L : List (It Int)) : Res := fun w G => ∃ v, DAt w r 0 v L ∧ ∀ x, G x ↔ x = r ∨ v.ownBlock = some x
theorem Loc.rd {r : Nat} {L : List (It Int)} : Loc (RD r L) :=
  ⟨fun ⟨v, a, b⟩ o hn => ⟨v, a.kept o (hn r ((b r).2 (.inl rfl))) (fun x hx => hn x ((b x).2 (.inr hx))), b⟩, fun ⟨_, a, b⟩ hx => by
    rcases (b _).1 hx with rfl | q
    · exact a.lt
    · exact (own_lt a.row q).2⟩
theorem Own.dtree {r : Nat} {L : List (It Int)} {R : Res} {w0 w : World} (l : Loc R) (h : Own (Sep (RD r L) R) w0 w) :
    ∃ v, DAt w r 0 v L ∧ ∀ {W v' L' n}, Below w.heap.size w W → W.ownsRow w.heap.size 132 3 v' n (itemVals L') → L'.length = n → Rising L' → Own (Sep (RD r L') R) w0 (W.setCell ⟨r, 0, none⟩ v') := by
  obtain ⟨G, ⟨G1, G2, ⟨v, a, e⟩, b, c, d⟩, h2, h3⟩ := h
  refine ⟨v, a, fun {W v' L' n} g1 g2 g3 g4 => ?_⟩
  refine Own.step (G1 := G1) (G1' := fun x => x = r ∨ v'.ownBlock = some x) (G2 := G2) l h3 (fun x hx => h2 x ((d x).2 hx)) b c ⟨v', a.set g1 g2 g3 g4, fun _ => Iff.rfl⟩ (set_only g1 ((e r).2 (.inl rfl))) (fun x hx => ?_)
  rcases hx with rfl | hx
  · exact .inl ((e x).2 (.inl rfl))
  · exact .inr (own_lt g2 hx).1

set_option maxHeartbeats 1000000 in
theorem dputNo (w : World) (r o : Nat) (v : Value) (L : List (It Int)) (h : DAt w r o v L) (key : Int) (d : Nat) (x : Int) (hl : L.length ≤ 1000000) (hg : (getL key L).isSome = true) :
    Calls Try.prog 64 #[.pointer (some ⟨r, o, none⟩), .int .i64 key, .int .u32 (d : Int), .int .i64 x] w fun e w' => e = .returned (.bool false) ∧ w' = w := by
  have HH := hide (hasT w r o v L h key hl)
  rw [hg] at HH
  clear hg h
  go_enter Try.func64, Try.ntmps64
  go_wp2_with fail
  refine HH.out.mono ?_
  rintro e w1 ⟨rfl, rfl⟩
  go_wp2
  go_ret
  exact ⟨rfl, rfl⟩
theorem delL_len {key : Int} {L : List (It Int)} {i : It Int} (hr : Rising L) (hg : getL key L = some i) : (delL key L).length = L.length - 1 := by
  obtain ⟨p, hp⟩ := place_there L key
  obtain ⟨hpl, hpe, _⟩ := place_some hr hp hg
  rw [del_place hr hpl (by rw [hpe]; exact (getL_spec hg).2), List.length_append, List.length_take, List.length_drop]
  omega
theorem dputP {R : Res} {w0 w : World} {r : Nat} {L : List (It Int)} (l : Loc R) (h : Own (Sep (RD r L) R) w0 w) (key : Int) (d : Nat) (x : Int) (hl : L.length ≤ 1000000) :
    Calls Try.prog 64 #[.pointer (some ⟨r, 0, none⟩), .int .i64 key, .int .u32 (d : Int), .int .i64 x] w fun e w' => e = .returned (.bool (getL key L).isNone) ∧ Own (Sep (RD r (putL key d x L)) R) w0 w' := by
  obtain ⟨v, a, k⟩ := h.dtree l
  cases hg : getL key L with
  | none =>
    rw [putL_no hg]
    exact (dput w r 0 v L a key d x hg hl).mono fun _ _ ⟨e, v', W, q1, q2, q3⟩ => ⟨e, by rw [q1]; exact k q2 q3 insL_length (insL_rising a.ris (fun i hi => getL_none hg i hi))⟩
  | some i =>
    rw [putL_yes hg]
    exact (dputNo w r 0 v L a key d x hl (by rw [hg]; rfl)).mono fun _ _ ⟨e, q⟩ => ⟨e, by rw [q]; exact h⟩
theorem ddropNoP {R : Res} {w0 w : World} {r : Nat} {L : List (It Int)} (l : Loc R) (h : Own (Sep (RD r L) R) w0 w) (key : Int) (hl : L.length ≤ 1000000) (hg : getL key L = none) :
    Calls Try.prog 47 #[.pointer (some ⟨r, 0, none⟩), .int .i64 key] w fun e w' => e = .returned (.tuple #[.int .i64 0, .bool false]) ∧ Own (Sep (RD r L) R) w0 w' := by
  obtain ⟨v, a, k⟩ := h.dtree l
  exact (ddropNo w r 0 v L a key hl hg).mono fun _ _ ⟨e, q⟩ => ⟨e, by rw [q]; exact h⟩
theorem ddropYesP {R : Res} {w0 w : World} {r : Nat} {L : List (It Int)} (l : Loc R) (h : Own (Sep (RD r L) R) w0 w) (key k : Int) (d : Nat) (x : Int) (hl : L.length ≤ 1000000) (hg : getL key L = some (k, d, x)) :
    Calls Try.prog 47 #[.pointer (some ⟨r, 0, none⟩), .int .i64 key] w fun e w' => e = .returned (.tuple #[.int .i64 x, .bool true]) ∧ Own (Sep (RD r (delL key L)) R) w0 w' := by
  obtain ⟨v, a, kk⟩ := h.dtree l
  exact (ddropYes w r 0 v L a key k d x hg hl).mono fun _ _ ⟨e, v', W, q1, q2, q3⟩ => ⟨e, by rw [q1]; exact kk q2 q3 (delL_len a.ris hg) (delL_rising a.ris)⟩
theorem dshapeP {R : Res} {w0 w : World} {r : Nat} {L : List (It Int)} (l : Loc R) (h : Own (Sep (RD r L) R) w0 w) (hl : L.length ≤ 1000000) :
    Calls Try.prog 60 #[.pointer (some ⟨r, 0, none⟩)] w fun e w' => ∃ v, e = .returned v ∧ NodesV w' v (shp L) ∧ Below w.heap.size w w' ∧ Own (Sep (RD r L) R) w0 w' := by
  obtain ⟨v, a, k⟩ := h.dtree l
  exact (dshape w r 0 v L a hl).mono fun _ _ ⟨v', e, b, g⟩ => ⟨v', e, nodes_of_owns g, b, h.below (Loc.rd.sep l) b⟩
end Go.Proofs.Ythcfmpjmgheieaa
