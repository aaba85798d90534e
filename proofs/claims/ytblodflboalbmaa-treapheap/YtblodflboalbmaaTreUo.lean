/- One tree of values uint32, in a world that has grown. Printed by tools/gen/tre.py. -/
import Derived.Test.YtblodflboalbmaaTreOne
import Derived.Test.YtblodflboalbmaaTreUs
namespace Go.Proofs.Ytblodflboalbmaa
open Go.RowKit

abbrev OneU (A : Nat → Prop) (w0 w : World) (t : Nat) (L : List (It Nat)) : Prop := One shU 100 A w0 w t L

theorem newOU (w : World) : Calls Try.prog 22 #[] w fun e w' => e = .returned (.pointer (some ⟨w.heap.size, 0, none⟩)) ∧ OneU (fun x => w.heap.size ≤ x) w w' w.heap.size [] :=
  (newU w).mono fun _ _ ⟨h1, h2, h3⟩ => ⟨h1, One.start h2 h3 (Nat.le_refl _)⟩
theorem putYesOU {A : Nat → Prop} {w0 w : World} {t : Nat} {L : List (It Nat)} (h : OneU A w0 w t L) (key : Int) (draw : Nat) (v : Nat) (hg : getL key L = none) (hl : L.length ≤ 1000000) :
    Calls Try.prog 24 #[.pointer (some ⟨t, 0, none⟩), .int .i64 key, .int .u32 (draw : Int), .int .u32 (v : Int)] w fun e w' => e = .returned (.bool true) ∧ OneU A w0 w' t (insL key draw v L) := by
  obtain ⟨T, h1, h2⟩ := h.tree
  exact (putYesU w t T L h1 key draw v hg (by omega)).mono fun _ _ ⟨e, g⟩ => ⟨e, h.turned h2 g⟩
theorem putNoOU {A : Nat → Prop} {w0 w : World} {t : Nat} {L : List (It Nat)} (h : OneU A w0 w t L) (key : Int) (draw : Nat) (v : Nat) (i : It Nat) (hg : getL key L = some i) :
    Calls Try.prog 24 #[.pointer (some ⟨t, 0, none⟩), .int .i64 key, .int .u32 (draw : Int), .int .u32 (v : Int)] w fun e w' => e = .returned (.bool false) ∧ OneU A w0 w' t L := by
  obtain ⟨T, h1, h2⟩ := h.tree
  exact (putNoU w t T L h1 key draw v i hg).mono fun _ _ ⟨e, g⟩ => ⟨e, h.below g⟩
theorem putOU {A : Nat → Prop} {w0 w : World} {t : Nat} {L : List (It Nat)} (h : OneU A w0 w t L) (key : Int) (draw : Nat) (v : Nat) (hl : L.length ≤ 1000000) :
    Calls Try.prog 24 #[.pointer (some ⟨t, 0, none⟩), .int .i64 key, .int .u32 (draw : Int), .int .u32 (v : Int)] w fun e w' => e = .returned (.bool (getL key L).isNone) ∧ OneU A w0 w' t (putL key draw v L) := by
  cases hg : getL key L with
  | none => rw [putL_no hg]; exact putYesOU h key draw v hg hl
  | some i => rw [putL_yes hg]; exact putNoOU h key draw v i hg
theorem shapeOU {A : Nat → Prop} {w0 w : World} {t : Nat} {L : List (It Nat)} (h : OneU A w0 w t L) (hl : L.length ≤ 1000000) :
    Calls Try.prog 25 #[.pointer (some ⟨t, 0, none⟩)] w fun e w' => ∃ v, e = .returned v ∧ NodesV w' v (shp L) ∧ (∀ a m c, v = .slice (some a) m c → w.heap.size ≤ a.block) ∧ Below w.heap.size w w' ∧ OneU A w0 w' t L := by
  obtain ⟨T, h1, h2⟩ := h.tree
  exact (shapeU w t T L h1 (by omega)).mono fun _ _ ⟨v, e, g, b⟩ => ⟨v, e, nodes_of_owns g, owns_new g, b, h.below b⟩
theorem lenOU {A : Nat → Prop} {w0 w : World} {t : Nat} {L : List (It Nat)} (h : OneU A w0 w t L) :
    Calls Try.prog 23 #[.pointer (some ⟨t, 0, none⟩)] w fun e w' => e = .returned (.int .i64 (L.length : Int)) ∧ w' = w := by
  obtain ⟨T, h1, h2⟩ := h.tree
  exact lenU w t T L h1
theorem getNoOU {A : Nat → Prop} {w0 w : World} {t : Nat} {L : List (It Nat)} (h : OneU A w0 w t L) (key : Int) (hg : getL key L = none) :
    Calls Try.prog 26 #[.pointer (some ⟨t, 0, none⟩), .int .i64 key] w fun e w' => e = .returned (.tuple #[.int .u32 0, .bool false]) ∧ OneU A w0 w' t L ∧ Below w.heap.size w w' := by
  obtain ⟨T, h1, h2⟩ := h.tree
  exact (getNoneU w t T L h1 key hg).mono fun _ _ ⟨e, g⟩ => ⟨e, h.below g, g⟩
theorem getYesOU {A : Nat → Prop} {w0 w : World} {t : Nat} {L : List (It Nat)} (h : OneU A w0 w t L) (key k : Int) (d : Nat) (v : Nat) (hg : getL key L = some (k, d, v)) :
    Calls Try.prog 26 #[.pointer (some ⟨t, 0, none⟩), .int .i64 key] w fun e w' => e = .returned (.tuple #[.int .u32 (v : Int), .bool true]) ∧ w' = w := by
  obtain ⟨T, h1, h2⟩ := h.tree
  exact getSomeU w t T L h1 key k d v hg
end Go.Proofs.Ytblodflboalbmaa
