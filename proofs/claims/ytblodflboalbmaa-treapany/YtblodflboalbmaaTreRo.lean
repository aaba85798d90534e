/- One tree of values dustpan/api.Run, in a world that has grown. Printed by tools/gen/tre.py. -/
import Derived.Test.YtblodflboalbmaaTreOne
import Derived.Test.YtblodflboalbmaaTreRs
import Derived.Test.YtblodflboalbmaaTreRd
import Derived.Test.YtblodflboalbmaaTreRk
namespace Go.Proofs.Ytblodflboalbmaa
open Go.RowKit

abbrev OneR (A : Nat → Prop) (w0 w : World) (t : Nat) (L : List (It (Int × Int))) : Prop := One shR 118 A w0 w t L

theorem newOR (w : World) : Calls Try.prog 33 #[] w fun e w' => e = .returned (.pointer (some ⟨w.heap.size, 0, none⟩)) ∧ OneR (fun x => w.heap.size ≤ x) w w' w.heap.size [] :=
  (newR w).mono fun _ _ ⟨h1, h2, h3⟩ => ⟨h1, One.start h2 h3 (Nat.le_refl _)⟩
theorem putYesOR {A : Nat → Prop} {w0 w : World} {t : Nat} {L : List (It (Int × Int))} (h : OneR A w0 w t L) (key : Int) (draw : Nat) (v : (Int × Int)) (hg : getL key L = none) (hl : L.length ≤ 1000000) :
    Calls Try.prog 35 #[.pointer (some ⟨t, 0, none⟩), .int .i64 key, .int .u32 (draw : Int), .agg #[.int .i64 v.1, .int .i64 v.2]] w fun e w' => e = .returned (.bool true) ∧ OneR A w0 w' t (insL key draw v L) := by
  obtain ⟨T, h1, h2⟩ := h.tree
  exact (putYesR w t T L h1 key draw v hg (by omega)).mono fun _ _ ⟨e, g⟩ => ⟨e, h.turned h2 g⟩
theorem putNoOR {A : Nat → Prop} {w0 w : World} {t : Nat} {L : List (It (Int × Int))} (h : OneR A w0 w t L) (key : Int) (draw : Nat) (v : (Int × Int)) (i : It (Int × Int)) (hg : getL key L = some i) :
    Calls Try.prog 35 #[.pointer (some ⟨t, 0, none⟩), .int .i64 key, .int .u32 (draw : Int), .agg #[.int .i64 v.1, .int .i64 v.2]] w fun e w' => e = .returned (.bool false) ∧ OneR A w0 w' t L := by
  obtain ⟨T, h1, h2⟩ := h.tree
  exact (putNoR w t T L h1 key draw v i hg).mono fun _ _ ⟨e, g⟩ => ⟨e, h.below g⟩
theorem putOR {A : Nat → Prop} {w0 w : World} {t : Nat} {L : List (It (Int × Int))} (h : OneR A w0 w t L) (key : Int) (draw : Nat) (v : (Int × Int)) (hl : L.length ≤ 1000000) :
    Calls Try.prog 35 #[.pointer (some ⟨t, 0, none⟩), .int .i64 key, .int .u32 (draw : Int), .agg #[.int .i64 v.1, .int .i64 v.2]] w fun e w' => e = .returned (.bool (getL key L).isNone) ∧ OneR A w0 w' t (putL key draw v L) := by
  cases hg : getL key L with
  | none => rw [putL_no hg]; exact putYesOR h key draw v hg hl
  | some i => rw [putL_yes hg]; exact putNoOR h key draw v i hg
theorem shapeOR {A : Nat → Prop} {w0 w : World} {t : Nat} {L : List (It (Int × Int))} (h : OneR A w0 w t L) (hl : L.length ≤ 1000000) :
    Calls Try.prog 41 #[.pointer (some ⟨t, 0, none⟩)] w fun e w' => ∃ v, e = .returned v ∧ NodesV w' v (shp L) ∧ (∀ a m c, v = .slice (some a) m c → w.heap.size ≤ a.block) ∧ Below w.heap.size w w' ∧ OneR A w0 w' t L := by
  obtain ⟨T, h1, h2⟩ := h.tree
  exact (shapeR w t T L h1 (by omega)).mono fun _ _ ⟨v, e, g, b⟩ => ⟨v, e, nodes_of_owns g, owns_new g, b, h.below b⟩
theorem dropNoOR {A : Nat → Prop} {w0 w : World} {t : Nat} {L : List (It (Int × Int))} (h : OneR A w0 w t L) (key : Int) (hg : getL key L = none) :
    Calls Try.prog 37 #[.pointer (some ⟨t, 0, none⟩), .int .i64 key] w fun e w' => e = .returned (.tuple #[.agg #[.int .i64 0, .int .i64 0], .bool false]) ∧ OneR A w0 w' t L := by
  obtain ⟨T, h1, h2⟩ := h.tree
  exact (dropNoR w t T L h1 key hg).mono fun _ _ ⟨e, g⟩ => ⟨e, h.below g⟩
theorem dropYesOR {A : Nat → Prop} {w0 w : World} {t : Nat} {L : List (It (Int × Int))} (h : OneR A w0 w t L) (key k : Int) (d : Nat) (v : (Int × Int)) (hg : getL key L = some (k, d, v)) (hl : L.length ≤ 1000000) :
    Calls Try.prog 37 #[.pointer (some ⟨t, 0, none⟩), .int .i64 key] w fun e w' => e = .returned (.tuple #[.agg #[.int .i64 v.1, .int .i64 v.2], .bool true]) ∧ OneR A w0 w' t (delL key L) := by
  obtain ⟨T, h1, h2⟩ := h.tree
  exact (dropYesR w t T L h1 key k d v hg (by omega)).mono fun _ _ ⟨e, g⟩ => ⟨e, h.turned h2 g⟩
theorem ceilNoOR {A : Nat → Prop} {w0 w : World} {t : Nat} {L : List (It (Int × Int))} (h : OneR A w0 w t L) (key : Int) (hg : ceilL key L = none) :
    Calls Try.prog 39 #[.pointer (some ⟨t, 0, none⟩), .int .i64 key] w fun e w' => e = .returned (.tuple #[.int .i64 0, .agg #[.int .i64 0, .int .i64 0], .bool false]) ∧ OneR A w0 w' t L ∧ Below w.heap.size w w' := by
  obtain ⟨T, h1, h2⟩ := h.tree
  exact (ceilNoneR w t T L h1 key hg).mono fun _ _ ⟨e, g⟩ => ⟨e, h.below g, g⟩
theorem ceilYesOR {A : Nat → Prop} {w0 w : World} {t : Nat} {L : List (It (Int × Int))} (h : OneR A w0 w t L) (key k : Int) (d : Nat) (v : (Int × Int)) (hg : ceilL key L = some (k, d, v)) :
    Calls Try.prog 39 #[.pointer (some ⟨t, 0, none⟩), .int .i64 key] w fun e w' => e = .returned (.tuple #[.int .i64 k, .agg #[.int .i64 v.1, .int .i64 v.2], .bool true]) ∧ OneR A w0 w' t L ∧ Below w.heap.size w w' := by
  obtain ⟨T, h1, h2⟩ := h.tree
  exact (ceilSomeR w t T L h1 key k d v hg).mono fun _ _ ⟨e, g⟩ => ⟨e, h.below g, g⟩
theorem keysOR {A : Nat → Prop} {w0 w : World} {t : Nat} {L : List (It (Int × Int))} (h : OneR A w0 w t L) (hl : L.length ≤ 1000000) :
    Calls Try.prog 42 #[.pointer (some ⟨t, 0, none⟩)] w fun e w' => ∃ v, e = .returned v ∧ IntsV w' v (L.map (·.1)) ∧ (∀ a m c, v = .slice (some a) m c → w.heap.size ≤ a.block) ∧ Below w.heap.size w w' ∧ OneR A w0 w' t L := by
  obtain ⟨T, h1, h2⟩ := h.tree
  exact (keysR w t T L h1 (by omega)).mono fun _ _ ⟨v, e, g, b⟩ => ⟨v, e, ints_of_owns g, owns_new g, b, h.below b⟩
end Go.Proofs.Ytblodflboalbmaa
