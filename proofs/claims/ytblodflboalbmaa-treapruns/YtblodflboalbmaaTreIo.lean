/- One tree of values int, in a world that has grown. Printed by tools/gen/tre.py. -/
import Derived.Test.YtblodflboalbmaaTreOne
import Derived.Test.YtblodflboalbmaaTreIs
import Derived.Test.YtblodflboalbmaaTreId
import Derived.Test.YtblodflboalbmaaTreIk
namespace Go.Proofs.Ytblodflboalbmaa
open Go.RowKit

abbrev OneI (A : Nat → Prop) (w0 w : World) (t : Nat) (L : List (It Int)) : Prop := One shI 80 A w0 w t L

theorem newOI (w : World) : Calls Try.prog 10 #[] w fun e w' => e = .returned (.pointer (some ⟨w.heap.size, 0, none⟩)) ∧ OneI (fun x => w.heap.size ≤ x) w w' w.heap.size [] :=
  (newI w).mono fun _ _ ⟨h1, h2, h3⟩ => ⟨h1, One.start h2 h3 (Nat.le_refl _)⟩
theorem putYesOI {A : Nat → Prop} {w0 w : World} {t : Nat} {L : List (It Int)} (h : OneI A w0 w t L) (key : Int) (draw : Nat) (v : Int) (hg : getL key L = none) (hl : L.length ≤ 1000000) :
    Calls Try.prog 20 #[.pointer (some ⟨t, 0, none⟩), .int .i64 key, .int .u32 (draw : Int), .int .i64 v] w fun e w' => e = .returned (.bool true) ∧ OneI A w0 w' t (insL key draw v L) := by
  obtain ⟨T, h1, h2⟩ := h.tree
  exact (putYesI w t T L h1 key draw v hg (by omega)).mono fun _ _ ⟨e, g⟩ => ⟨e, h.turned h2 g⟩
theorem putNoOI {A : Nat → Prop} {w0 w : World} {t : Nat} {L : List (It Int)} (h : OneI A w0 w t L) (key : Int) (draw : Nat) (v : Int) (i : It Int) (hg : getL key L = some i) :
    Calls Try.prog 20 #[.pointer (some ⟨t, 0, none⟩), .int .i64 key, .int .u32 (draw : Int), .int .i64 v] w fun e w' => e = .returned (.bool false) ∧ OneI A w0 w' t L := by
  obtain ⟨T, h1, h2⟩ := h.tree
  exact (putNoI w t T L h1 key draw v i hg).mono fun _ _ ⟨e, g⟩ => ⟨e, h.below g⟩
theorem putOI {A : Nat → Prop} {w0 w : World} {t : Nat} {L : List (It Int)} (h : OneI A w0 w t L) (key : Int) (draw : Nat) (v : Int) (hl : L.length ≤ 1000000) :
    Calls Try.prog 20 #[.pointer (some ⟨t, 0, none⟩), .int .i64 key, .int .u32 (draw : Int), .int .i64 v] w fun e w' => e = .returned (.bool (getL key L).isNone) ∧ OneI A w0 w' t (putL key draw v L) := by
  cases hg : getL key L with
  | none => rw [putL_no hg]; exact putYesOI h key draw v hg hl
  | some i => rw [putL_yes hg]; exact putNoOI h key draw v i hg
theorem shapeOI {A : Nat → Prop} {w0 w : World} {t : Nat} {L : List (It Int)} (h : OneI A w0 w t L) (hl : L.length ≤ 1000000) :
    Calls Try.prog 13 #[.pointer (some ⟨t, 0, none⟩)] w fun e w' => ∃ v, e = .returned v ∧ NodesV w' v (shp L) ∧ (∀ a m c, v = .slice (some a) m c → w.heap.size ≤ a.block) ∧ Below w.heap.size w w' ∧ OneI A w0 w' t L := by
  obtain ⟨T, h1, h2⟩ := h.tree
  exact (shapeI w t T L h1 (by omega)).mono fun _ _ ⟨v, e, g, b⟩ => ⟨v, e, nodes_of_owns g, owns_new g, b, h.below b⟩
theorem lenOI {A : Nat → Prop} {w0 w : World} {t : Nat} {L : List (It Int)} (h : OneI A w0 w t L) :
    Calls Try.prog 15 #[.pointer (some ⟨t, 0, none⟩)] w fun e w' => e = .returned (.int .i64 (L.length : Int)) ∧ w' = w := by
  obtain ⟨T, h1, h2⟩ := h.tree
  exact lenI w t T L h1
theorem getNoOI {A : Nat → Prop} {w0 w : World} {t : Nat} {L : List (It Int)} (h : OneI A w0 w t L) (key : Int) (hg : getL key L = none) :
    Calls Try.prog 32 #[.pointer (some ⟨t, 0, none⟩), .int .i64 key] w fun e w' => e = .returned (.tuple #[.int .i64 0, .bool false]) ∧ OneI A w0 w' t L ∧ Below w.heap.size w w' := by
  obtain ⟨T, h1, h2⟩ := h.tree
  exact (getNoneI w t T L h1 key hg).mono fun _ _ ⟨e, g⟩ => ⟨e, h.below g, g⟩
theorem getYesOI {A : Nat → Prop} {w0 w : World} {t : Nat} {L : List (It Int)} (h : OneI A w0 w t L) (key k : Int) (d : Nat) (v : Int) (hg : getL key L = some (k, d, v)) :
    Calls Try.prog 32 #[.pointer (some ⟨t, 0, none⟩), .int .i64 key] w fun e w' => e = .returned (.tuple #[.int .i64 v, .bool true]) ∧ w' = w := by
  obtain ⟨T, h1, h2⟩ := h.tree
  exact getSomeI w t T L h1 key k d v hg
theorem dropNoOI {A : Nat → Prop} {w0 w : World} {t : Nat} {L : List (It Int)} (h : OneI A w0 w t L) (key : Int) (hg : getL key L = none) :
    Calls Try.prog 21 #[.pointer (some ⟨t, 0, none⟩), .int .i64 key] w fun e w' => e = .returned (.tuple #[.int .i64 0, .bool false]) ∧ OneI A w0 w' t L := by
  obtain ⟨T, h1, h2⟩ := h.tree
  exact (dropNoI w t T L h1 key hg).mono fun _ _ ⟨e, g⟩ => ⟨e, h.below g⟩
theorem dropYesOI {A : Nat → Prop} {w0 w : World} {t : Nat} {L : List (It Int)} (h : OneI A w0 w t L) (key k : Int) (d : Nat) (v : Int) (hg : getL key L = some (k, d, v)) (hl : L.length ≤ 1000000) :
    Calls Try.prog 21 #[.pointer (some ⟨t, 0, none⟩), .int .i64 key] w fun e w' => e = .returned (.tuple #[.int .i64 v, .bool true]) ∧ OneI A w0 w' t (delL key L) := by
  obtain ⟨T, h1, h2⟩ := h.tree
  exact (dropYesI w t T L h1 key k d v hg (by omega)).mono fun _ _ ⟨e, g⟩ => ⟨e, h.turned h2 g⟩
theorem ceilNoOI {A : Nat → Prop} {w0 w : World} {t : Nat} {L : List (It Int)} (h : OneI A w0 w t L) (key : Int) (hg : ceilL key L = none) :
    Calls Try.prog 38 #[.pointer (some ⟨t, 0, none⟩), .int .i64 key] w fun e w' => e = .returned (.tuple #[.int .i64 0, .int .i64 0, .bool false]) ∧ OneI A w0 w' t L ∧ Below w.heap.size w w' := by
  obtain ⟨T, h1, h2⟩ := h.tree
  exact (ceilNoneI w t T L h1 key hg).mono fun _ _ ⟨e, g⟩ => ⟨e, h.below g, g⟩
theorem ceilYesOI {A : Nat → Prop} {w0 w : World} {t : Nat} {L : List (It Int)} (h : OneI A w0 w t L) (key k : Int) (d : Nat) (v : Int) (hg : ceilL key L = some (k, d, v)) :
    Calls Try.prog 38 #[.pointer (some ⟨t, 0, none⟩), .int .i64 key] w fun e w' => e = .returned (.tuple #[.int .i64 k, .int .i64 v, .bool true]) ∧ OneI A w0 w' t L ∧ Below w.heap.size w w' := by
  obtain ⟨T, h1, h2⟩ := h.tree
  exact (ceilSomeI w t T L h1 key k d v hg).mono fun _ _ ⟨e, g⟩ => ⟨e, h.below g, g⟩
theorem keysOI {A : Nat → Prop} {w0 w : World} {t : Nat} {L : List (It Int)} (h : OneI A w0 w t L) (hl : L.length ≤ 1000000) :
    Calls Try.prog 17 #[.pointer (some ⟨t, 0, none⟩)] w fun e w' => ∃ v, e = .returned v ∧ IntsV w' v (L.map (·.1)) ∧ (∀ a m c, v = .slice (some a) m c → w.heap.size ≤ a.block) ∧ Below w.heap.size w w' ∧ OneI A w0 w' t L := by
  obtain ⟨T, h1, h2⟩ := h.tree
  exact (keysI w t T L h1 (by omega)).mono fun _ _ ⟨v, e, g, b⟩ => ⟨v, e, ints_of_owns g, owns_new g, b, h.below b⟩
end Go.Proofs.Ytblodflboalbmaa
