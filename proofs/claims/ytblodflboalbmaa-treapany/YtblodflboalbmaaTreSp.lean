/- A tree of values string beside other things. Printed by tools/gen/tre.py. -/
import Derived.Test.YtblodflboalbmaaTreSep
import Derived.Test.YtblodflboalbmaaTreSo
namespace Go.Proofs.Ytblodflboalbmaa
open Go.RowKit

abbrev RTS (t : Nat) (L : List (It ByteArray)) : Res := RT shS 109 t L

theorem newPS {R : Res} {w0 w : World} (l : Loc R) (h : Own R w0 w) : Calls Try.prog 27 #[] w fun e w' => e = .returned (.pointer (some ⟨w.heap.size, 0, none⟩)) ∧ Own (Sep (RTS w.heap.size []) R) w0 w' :=
  (newS w).mono fun _ _ ⟨h1, h2, h3⟩ => ⟨h1, h.new l h2 h3⟩
theorem putPS {R : Res} {w0 w : World} {t : Nat} {L : List (It ByteArray)} (l : Loc R) (h : Own (Sep (RTS t L) R) w0 w) (key : Int) (draw : Nat) (v : ByteArray) (hl : L.length ≤ 1000000) :
    Calls Try.prog 28 #[.pointer (some ⟨t, 0, none⟩), .int .i64 key, .int .u32 (draw : Int), .string v] w fun e w' => e = .returned (.bool (getL key L).isNone) ∧ Own (Sep (RTS t (putL key draw v L)) R) w0 w' := by
  obtain ⟨T, a, k⟩ := h.turned l
  cases hg : getL key L with
  | none => rw [putL_no hg]; exact (putYesS w t T L a key draw v hg (by omega)).mono fun _ _ ⟨e, g⟩ => ⟨e, k g⟩
  | some i => rw [putL_yes hg]; exact (putNoS w t T L a key draw v i hg).mono fun _ _ ⟨e, g⟩ => ⟨e, h.below (Loc.rt.sep l) g⟩
theorem shapePS {R : Res} {w0 w : World} {t : Nat} {L : List (It ByteArray)} (l : Loc R) (h : Own (Sep (RTS t L) R) w0 w) (hl : L.length ≤ 1000000) :
    Calls Try.prog 40 #[.pointer (some ⟨t, 0, none⟩)] w fun e w' => ∃ v, e = .returned v ∧ NodesV w' v (shp L) ∧ Below w.heap.size w w' ∧ Own (Sep (RTS t L) R) w0 w' := by
  obtain ⟨T, a, _⟩ := h.turned l
  exact (shapeS w t T L a (by omega)).mono fun _ _ ⟨v, e, g, b⟩ => ⟨v, e, nodes_of_owns g, b, h.below (Loc.rt.sep l) b⟩
theorem lenPS {R : Res} {w0 w : World} {t : Nat} {L : List (It ByteArray)} (l : Loc R) (h : Own (Sep (RTS t L) R) w0 w) :
    Calls Try.prog 31 #[.pointer (some ⟨t, 0, none⟩)] w fun e w' => e = .returned (.int .i64 (L.length : Int)) ∧ w' = w := by
  obtain ⟨T, a, _⟩ := h.turned l
  exact lenS w t T L a
theorem getNoPS {R : Res} {w0 w : World} {t : Nat} {L : List (It ByteArray)} (l : Loc R) (h : Own (Sep (RTS t L) R) w0 w) (key : Int) (hg : getL key L = none) :
    Calls Try.prog 43 #[.pointer (some ⟨t, 0, none⟩), .int .i64 key] w fun e w' => e = .returned (.tuple #[.string ⟨#[]⟩, .bool false]) ∧ Own (Sep (RTS t L) R) w0 w' := by
  obtain ⟨T, a, _⟩ := h.turned l
  exact (getNoneS w t T L a key hg).mono fun _ _ ⟨e, g⟩ => ⟨e, h.below (Loc.rt.sep l) g⟩
theorem getYesPS {R : Res} {w0 w : World} {t : Nat} {L : List (It ByteArray)} (l : Loc R) (h : Own (Sep (RTS t L) R) w0 w) (key k : Int) (d : Nat) (v : ByteArray) (hg : getL key L = some (k, d, v)) :
    Calls Try.prog 43 #[.pointer (some ⟨t, 0, none⟩), .int .i64 key] w fun e w' => e = .returned (.tuple #[.string v, .bool true]) ∧ Own (Sep (RTS t L) R) w0 w' := by
  obtain ⟨T, a, _⟩ := h.turned l
  exact (getSomeS w t T L a key k d v hg).mono fun _ _ ⟨e, g⟩ => ⟨e, by rw [g]; exact h⟩
theorem dropNoPS {R : Res} {w0 w : World} {t : Nat} {L : List (It ByteArray)} (l : Loc R) (h : Own (Sep (RTS t L) R) w0 w) (key : Int) (hg : getL key L = none) :
    Calls Try.prog 36 #[.pointer (some ⟨t, 0, none⟩), .int .i64 key] w fun e w' => e = .returned (.tuple #[.string ⟨#[]⟩, .bool false]) ∧ Own (Sep (RTS t L) R) w0 w' := by
  obtain ⟨T, a, _⟩ := h.turned l
  exact (dropNoS w t T L a key hg).mono fun _ _ ⟨e, g⟩ => ⟨e, h.below (Loc.rt.sep l) g⟩
theorem dropYesPS {R : Res} {w0 w : World} {t : Nat} {L : List (It ByteArray)} (l : Loc R) (h : Own (Sep (RTS t L) R) w0 w) (key k : Int) (d : Nat) (v : ByteArray) (hg : getL key L = some (k, d, v)) (hl : L.length ≤ 1000000) :
    Calls Try.prog 36 #[.pointer (some ⟨t, 0, none⟩), .int .i64 key] w fun e w' => e = .returned (.tuple #[.string v, .bool true]) ∧ Own (Sep (RTS t (delL key L)) R) w0 w' := by
  obtain ⟨T, a, g'⟩ := h.turned l
  exact (dropYesS w t T L a key k d v hg (by omega)).mono fun _ _ ⟨e, g⟩ => ⟨e, g' g⟩
theorem ceilNoPS {R : Res} {w0 w : World} {t : Nat} {L : List (It ByteArray)} (l : Loc R) (h : Own (Sep (RTS t L) R) w0 w) (key : Int) (hg : ceilL key L = none) :
    Calls Try.prog 30 #[.pointer (some ⟨t, 0, none⟩), .int .i64 key] w fun e w' => e = .returned (.tuple #[.int .i64 0, .string ⟨#[]⟩, .bool false]) ∧ Own (Sep (RTS t L) R) w0 w' := by
  obtain ⟨T, a, _⟩ := h.turned l
  exact (ceilNoneS w t T L a key hg).mono fun _ _ ⟨e, g⟩ => ⟨e, h.below (Loc.rt.sep l) g⟩
theorem ceilYesPS {R : Res} {w0 w : World} {t : Nat} {L : List (It ByteArray)} (l : Loc R) (h : Own (Sep (RTS t L) R) w0 w) (key k : Int) (d : Nat) (v : ByteArray) (hg : ceilL key L = some (k, d, v)) :
    Calls Try.prog 30 #[.pointer (some ⟨t, 0, none⟩), .int .i64 key] w fun e w' => e = .returned (.tuple #[.int .i64 k, .string v, .bool true]) ∧ Own (Sep (RTS t L) R) w0 w' := by
  obtain ⟨T, a, _⟩ := h.turned l
  exact (ceilSomeS w t T L a key k d v hg).mono fun _ _ ⟨e, g⟩ => ⟨e, h.below (Loc.rt.sep l) g⟩
theorem keysPS {R : Res} {w0 w : World} {t : Nat} {L : List (It ByteArray)} (l : Loc R) (h : Own (Sep (RTS t L) R) w0 w) (hl : L.length ≤ 1000000) :
    Calls Try.prog 29 #[.pointer (some ⟨t, 0, none⟩)] w fun e w' => ∃ v, e = .returned v ∧ IntsV w' v (L.map (·.1)) ∧ Below w.heap.size w w' ∧ Own (Sep (RTS t L) R) w0 w' := by
  obtain ⟨T, a, _⟩ := h.turned l
  exact (keysS w t T L a (by omega)).mono fun _ _ ⟨v, e, g, b⟩ => ⟨v, e, ints_of_owns g, b, h.below (Loc.rt.sep l) b⟩
end Go.Proofs.Ytblodflboalbmaa
