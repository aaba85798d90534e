/- A tree of values int beside other things. Printed by tools/gen/tre.py. -/
import Derived.Test.YtblodflboalbmaaTreSep
import Derived.Test.YtblodflboalbmaaTreIo
namespace Go.Proofs.Ytblodflboalbmaa
open Go.RowKit

abbrev RTI (t : Nat) (L : List (It Int)) : Res := RT shI 80 t L

theorem newPI {R : Res} {w0 w : World} (l : Loc R) (h : Own R w0 w) : Calls Try.prog 10 #[] w fun e w' => e = .returned (.pointer (some ⟨w.heap.size, 0, none⟩)) ∧ Own (Sep (RTI w.heap.size []) R) w0 w' :=
  (newI w).mono fun _ _ ⟨h1, h2, h3⟩ => ⟨h1, h.new l h2 h3⟩
theorem putPI {R : Res} {w0 w : World} {t : Nat} {L : List (It Int)} (l : Loc R) (h : Own (Sep (RTI t L) R) w0 w) (key : Int) (draw : Nat) (v : Int) (hl : L.length ≤ 1000000) :
    Calls Try.prog 20 #[.pointer (some ⟨t, 0, none⟩), .int .i64 key, .int .u32 (draw : Int), .int .i64 v] w fun e w' => e = .returned (.bool (getL key L).isNone) ∧ Own (Sep (RTI t (putL key draw v L)) R) w0 w' := by
  obtain ⟨T, a, k⟩ := h.turned l
  cases hg : getL key L with
  | none => rw [putL_no hg]; exact (putYesI w t T L a key draw v hg (by omega)).mono fun _ _ ⟨e, g⟩ => ⟨e, k g⟩
  | some i => rw [putL_yes hg]; exact (putNoI w t T L a key draw v i hg).mono fun _ _ ⟨e, g⟩ => ⟨e, h.below (Loc.rt.sep l) g⟩
theorem shapePI {R : Res} {w0 w : World} {t : Nat} {L : List (It Int)} (l : Loc R) (h : Own (Sep (RTI t L) R) w0 w) (hl : L.length ≤ 1000000) :
    Calls Try.prog 13 #[.pointer (some ⟨t, 0, none⟩)] w fun e w' => ∃ v, e = .returned v ∧ NodesV w' v (shp L) ∧ Below w.heap.size w w' ∧ Own (Sep (RTI t L) R) w0 w' := by
  obtain ⟨T, a, _⟩ := h.turned l
  exact (shapeI w t T L a (by omega)).mono fun _ _ ⟨v, e, g, b⟩ => ⟨v, e, nodes_of_owns g, b, h.below (Loc.rt.sep l) b⟩
theorem lenPI {R : Res} {w0 w : World} {t : Nat} {L : List (It Int)} (l : Loc R) (h : Own (Sep (RTI t L) R) w0 w) :
    Calls Try.prog 15 #[.pointer (some ⟨t, 0, none⟩)] w fun e w' => e = .returned (.int .i64 (L.length : Int)) ∧ w' = w := by
  obtain ⟨T, a, _⟩ := h.turned l
  exact lenI w t T L a
theorem getNoPI {R : Res} {w0 w : World} {t : Nat} {L : List (It Int)} (l : Loc R) (h : Own (Sep (RTI t L) R) w0 w) (key : Int) (hg : getL key L = none) :
    Calls Try.prog 32 #[.pointer (some ⟨t, 0, none⟩), .int .i64 key] w fun e w' => e = .returned (.tuple #[.int .i64 0, .bool false]) ∧ Own (Sep (RTI t L) R) w0 w' := by
  obtain ⟨T, a, _⟩ := h.turned l
  exact (getNoneI w t T L a key hg).mono fun _ _ ⟨e, g⟩ => ⟨e, h.below (Loc.rt.sep l) g⟩
theorem getYesPI {R : Res} {w0 w : World} {t : Nat} {L : List (It Int)} (l : Loc R) (h : Own (Sep (RTI t L) R) w0 w) (key k : Int) (d : Nat) (v : Int) (hg : getL key L = some (k, d, v)) :
    Calls Try.prog 32 #[.pointer (some ⟨t, 0, none⟩), .int .i64 key] w fun e w' => e = .returned (.tuple #[.int .i64 v, .bool true]) ∧ Own (Sep (RTI t L) R) w0 w' := by
  obtain ⟨T, a, _⟩ := h.turned l
  exact (getSomeI w t T L a key k d v hg).mono fun _ _ ⟨e, g⟩ => ⟨e, by rw [g]; exact h⟩
theorem dropNoPI {R : Res} {w0 w : World} {t : Nat} {L : List (It Int)} (l : Loc R) (h : Own (Sep (RTI t L) R) w0 w) (key : Int) (hg : getL key L = none) :
    Calls Try.prog 21 #[.pointer (some ⟨t, 0, none⟩), .int .i64 key] w fun e w' => e = .returned (.tuple #[.int .i64 0, .bool false]) ∧ Own (Sep (RTI t L) R) w0 w' := by
  obtain ⟨T, a, _⟩ := h.turned l
  exact (dropNoI w t T L a key hg).mono fun _ _ ⟨e, g⟩ => ⟨e, h.below (Loc.rt.sep l) g⟩
theorem dropYesPI {R : Res} {w0 w : World} {t : Nat} {L : List (It Int)} (l : Loc R) (h : Own (Sep (RTI t L) R) w0 w) (key k : Int) (d : Nat) (v : Int) (hg : getL key L = some (k, d, v)) (hl : L.length ≤ 1000000) :
    Calls Try.prog 21 #[.pointer (some ⟨t, 0, none⟩), .int .i64 key] w fun e w' => e = .returned (.tuple #[.int .i64 v, .bool true]) ∧ Own (Sep (RTI t (delL key L)) R) w0 w' := by
  obtain ⟨T, a, g'⟩ := h.turned l
  exact (dropYesI w t T L a key k d v hg (by omega)).mono fun _ _ ⟨e, g⟩ => ⟨e, g' g⟩
theorem ceilNoPI {R : Res} {w0 w : World} {t : Nat} {L : List (It Int)} (l : Loc R) (h : Own (Sep (RTI t L) R) w0 w) (key : Int) (hg : ceilL key L = none) :
    Calls Try.prog 38 #[.pointer (some ⟨t, 0, none⟩), .int .i64 key] w fun e w' => e = .returned (.tuple #[.int .i64 0, .int .i64 0, .bool false]) ∧ Own (Sep (RTI t L) R) w0 w' := by
  obtain ⟨T, a, _⟩ := h.turned l
  exact (ceilNoneI w t T L a key hg).mono fun _ _ ⟨e, g⟩ => ⟨e, h.below (Loc.rt.sep l) g⟩
theorem ceilYesPI {R : Res} {w0 w : World} {t : Nat} {L : List (It Int)} (l : Loc R) (h : Own (Sep (RTI t L) R) w0 w) (key k : Int) (d : Nat) (v : Int) (hg : ceilL key L = some (k, d, v)) :
    Calls Try.prog 38 #[.pointer (some ⟨t, 0, none⟩), .int .i64 key] w fun e w' => e = .returned (.tuple #[.int .i64 k, .int .i64 v, .bool true]) ∧ Own (Sep (RTI t L) R) w0 w' := by
  obtain ⟨T, a, _⟩ := h.turned l
  exact (ceilSomeI w t T L a key k d v hg).mono fun _ _ ⟨e, g⟩ => ⟨e, h.below (Loc.rt.sep l) g⟩
theorem keysPI {R : Res} {w0 w : World} {t : Nat} {L : List (It Int)} (l : Loc R) (h : Own (Sep (RTI t L) R) w0 w) (hl : L.length ≤ 1000000) :
    Calls Try.prog 17 #[.pointer (some ⟨t, 0, none⟩)] w fun e w' => ∃ v, e = .returned v ∧ IntsV w' v (L.map (·.1)) ∧ Below w.heap.size w w' ∧ Own (Sep (RTI t L) R) w0 w' := by
  obtain ⟨T, a, _⟩ := h.turned l
  exact (keysI w t T L a (by omega)).mono fun _ _ ⟨v, e, g, b⟩ => ⟨v, e, ints_of_owns g, b, h.below (Loc.rt.sep l) b⟩
end Go.Proofs.Ytblodflboalbmaa
