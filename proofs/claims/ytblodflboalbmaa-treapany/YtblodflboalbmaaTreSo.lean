/- One tree of values string, in a world that has grown. Printed by tools/gen/tre.py. -/
import Derived.Test.YtblodflboalbmaaTreOne
import Derived.Test.YtblodflboalbmaaTreSs
import Derived.Test.YtblodflboalbmaaTreSd
import Derived.Test.YtblodflboalbmaaTreSk
namespace Go.Proofs.Ytblodflboalbmaa
open Go.RowKit

abbrev OneS (A : Nat → Prop) (w0 w : World) (t : Nat) (L : List (It ByteArray)) : Prop := One shS 109 A w0 w t L

theorem newOS (w : World) : Calls Try.prog 27 #[] w fun e w' => e = .returned (.pointer (some ⟨w.heap.size, 0, none⟩)) ∧ OneS (fun x => w.heap.size ≤ x) w w' w.heap.size [] :=
  (newS w).mono fun _ _ ⟨h1, h2, h3⟩ => ⟨h1, One.start h2 h3 (Nat.le_refl _)⟩
theorem putYesOS {A : Nat → Prop} {w0 w : World} {t : Nat} {L : List (It ByteArray)} (h : OneS A w0 w t L) (key : Int) (draw : Nat) (v : ByteArray) (hg : getL key L = none) (hl : L.length ≤ 1000000) :
    Calls Try.prog 28 #[.pointer (some ⟨t, 0, none⟩), .int .i64 key, .int .u32 (draw : Int), .string v] w fun e w' => e = .returned (.bool true) ∧ OneS A w0 w' t (insL key draw v L) := by
  obtain ⟨T, h1, h2⟩ := h.tree
  exact (putYesS w t T L h1 key draw v hg (by omega)).mono fun _ _ ⟨e, g⟩ => ⟨e, h.turned h2 g⟩
theorem putNoOS {A : Nat → Prop} {w0 w : World} {t : Nat} {L : List (It ByteArray)} (h : OneS A w0 w t L) (key : Int) (draw : Nat) (v : ByteArray) (i : It ByteArray) (hg : getL key L = some i) :
    Calls Try.prog 28 #[.pointer (some ⟨t, 0, none⟩), .int .i64 key, .int .u32 (draw : Int), .string v] w fun e w' => e = .returned (.bool false) ∧ OneS A w0 w' t L := by
  obtain ⟨T, h1, h2⟩ := h.tree
  exact (putNoS w t T L h1 key draw v i hg).mono fun _ _ ⟨e, g⟩ => ⟨e, h.below g⟩
theorem putOS {A : Nat → Prop} {w0 w : World} {t : Nat} {L : List (It ByteArray)} (h : OneS A w0 w t L) (key : Int) (draw : Nat) (v : ByteArray) (hl : L.length ≤ 1000000) :
    Calls Try.prog 28 #[.pointer (some ⟨t, 0, none⟩), .int .i64 key, .int .u32 (draw : Int), .string v] w fun e w' => e = .returned (.bool (getL key L).isNone) ∧ OneS A w0 w' t (putL key draw v L) := by
  cases hg : getL key L with
  | none => rw [putL_no hg]; exact putYesOS h key draw v hg hl
  | some i => rw [putL_yes hg]; exact putNoOS h key draw v i hg
theorem shapeOS {A : Nat → Prop} {w0 w : World} {t : Nat} {L : List (It ByteArray)} (h : OneS A w0 w t L) (hl : L.length ≤ 1000000) :
    Calls Try.prog 40 #[.pointer (some ⟨t, 0, none⟩)] w fun e w' => ∃ v, e = .returned v ∧ NodesV w' v (shp L) ∧ (∀ a m c, v = .slice (some a) m c → w.heap.size ≤ a.block) ∧ Below w.heap.size w w' ∧ OneS A w0 w' t L := by
  obtain ⟨T, h1, h2⟩ := h.tree
  exact (shapeS w t T L h1 (by omega)).mono fun _ _ ⟨v, e, g, b⟩ => ⟨v, e, nodes_of_owns g, owns_new g, b, h.below b⟩
theorem lenOS {A : Nat → Prop} {w0 w : World} {t : Nat} {L : List (It ByteArray)} (h : OneS A w0 w t L) :
    Calls Try.prog 31 #[.pointer (some ⟨t, 0, none⟩)] w fun e w' => e = .returned (.int .i64 (L.length : Int)) ∧ w' = w := by
  obtain ⟨T, h1, h2⟩ := h.tree
  exact lenS w t T L h1
theorem getNoOS {A : Nat → Prop} {w0 w : World} {t : Nat} {L : List (It ByteArray)} (h : OneS A w0 w t L) (key : Int) (hg : getL key L = none) :
    Calls Try.prog 43 #[.pointer (some ⟨t, 0, none⟩), .int .i64 key] w fun e w' => e = .returned (.tuple #[.string ⟨#[]⟩, .bool false]) ∧ OneS A w0 w' t L ∧ Below w.heap.size w w' := by
  obtain ⟨T, h1, h2⟩ := h.tree
  exact (getNoneS w t T L h1 key hg).mono fun _ _ ⟨e, g⟩ => ⟨e, h.below g, g⟩
theorem getYesOS {A : Nat → Prop} {w0 w : World} {t : Nat} {L : List (It ByteArray)} (h : OneS A w0 w t L) (key k : Int) (d : Nat) (v : ByteArray) (hg : getL key L = some (k, d, v)) :
    Calls Try.prog 43 #[.pointer (some ⟨t, 0, none⟩), .int .i64 key] w fun e w' => e = .returned (.tuple #[.string v, .bool true]) ∧ w' = w := by
  obtain ⟨T, h1, h2⟩ := h.tree
  exact getSomeS w t T L h1 key k d v hg
theorem dropNoOS {A : Nat → Prop} {w0 w : World} {t : Nat} {L : List (It ByteArray)} (h : OneS A w0 w t L) (key : Int) (hg : getL key L = none) :
    Calls Try.prog 36 #[.pointer (some ⟨t, 0, none⟩), .int .i64 key] w fun e w' => e = .returned (.tuple #[.string ⟨#[]⟩, .bool false]) ∧ OneS A w0 w' t L := by
  obtain ⟨T, h1, h2⟩ := h.tree
  exact (dropNoS w t T L h1 key hg).mono fun _ _ ⟨e, g⟩ => ⟨e, h.below g⟩
theorem dropYesOS {A : Nat → Prop} {w0 w : World} {t : Nat} {L : List (It ByteArray)} (h : OneS A w0 w t L) (key k : Int) (d : Nat) (v : ByteArray) (hg : getL key L = some (k, d, v)) (hl : L.length ≤ 1000000) :
    Calls Try.prog 36 #[.pointer (some ⟨t, 0, none⟩), .int .i64 key] w fun e w' => e = .returned (.tuple #[.string v, .bool true]) ∧ OneS A w0 w' t (delL key L) := by
  obtain ⟨T, h1, h2⟩ := h.tree
  exact (dropYesS w t T L h1 key k d v hg (by omega)).mono fun _ _ ⟨e, g⟩ => ⟨e, h.turned h2 g⟩
theorem ceilNoOS {A : Nat → Prop} {w0 w : World} {t : Nat} {L : List (It ByteArray)} (h : OneS A w0 w t L) (key : Int) (hg : ceilL key L = none) :
    Calls Try.prog 30 #[.pointer (some ⟨t, 0, none⟩), .int .i64 key] w fun e w' => e = .returned (.tuple #[.int .i64 0, .string ⟨#[]⟩, .bool false]) ∧ OneS A w0 w' t L ∧ Below w.heap.size w w' := by
  obtain ⟨T, h1, h2⟩ := h.tree
  exact (ceilNoneS w t T L h1 key hg).mono fun _ _ ⟨e, g⟩ => ⟨e, h.below g, g⟩
theorem ceilYesOS {A : Nat → Prop} {w0 w : World} {t : Nat} {L : List (It ByteArray)} (h : OneS A w0 w t L) (key k : Int) (d : Nat) (v : ByteArray) (hg : ceilL key L = some (k, d, v)) :
    Calls Try.prog 30 #[.pointer (some ⟨t, 0, none⟩), .int .i64 key] w fun e w' => e = .returned (.tuple #[.int .i64 k, .string v, .bool true]) ∧ OneS A w0 w' t L ∧ Below w.heap.size w w' := by
  obtain ⟨T, h1, h2⟩ := h.tree
  exact (ceilSomeS w t T L h1 key k d v hg).mono fun _ _ ⟨e, g⟩ => ⟨e, h.below g, g⟩
theorem keysOS {A : Nat → Prop} {w0 w : World} {t : Nat} {L : List (It ByteArray)} (h : OneS A w0 w t L) (hl : L.length ≤ 1000000) :
    Calls Try.prog 29 #[.pointer (some ⟨t, 0, none⟩)] w fun e w' => ∃ v, e = .returned v ∧ IntsV w' v (L.map (·.1)) ∧ (∀ a m c, v = .slice (some a) m c → w.heap.size ≤ a.block) ∧ Below w.heap.size w w' ∧ OneS A w0 w' t L := by
  obtain ⟨T, h1, h2⟩ := h.tree
  exact (keysS w t T L h1 (by omega)).mono fun _ _ ⟨v, e, g, b⟩ => ⟨v, e, ints_of_owns g, owns_new g, b, h.below b⟩
end Go.Proofs.Ytblodflboalbmaa
