/- A tree of values dustpan/api.Run beside other things. Printed by tools/gen/tre.py. -/
import Derived.Test.YtblodflboalbmaaTreSep
import Derived.Test.YtblodflboalbmaaTreRo
namespace Go.Proofs.Ytblodflboalbmaa
open Go.RowKit

abbrev RTR (t : Nat) (L : List (It (Int × Int))) : Res := RT shR 118 t L

theorem newPR {R : Res} {w0 w : World} (l : Loc R) (h : Own R w0 w) : Calls Try.prog 33 #[] w fun e w' => e = .returned (.pointer (some ⟨w.heap.size, 0, none⟩)) ∧ Own (Sep (RTR w.heap.size []) R) w0 w' :=
  (newR w).mono fun _ _ ⟨h1, h2, h3⟩ => ⟨h1, h.new l h2 h3⟩
theorem putPR {R : Res} {w0 w : World} {t : Nat} {L : List (It (Int × Int))} (l : Loc R) (h : Own (Sep (RTR t L) R) w0 w) (key : Int) (draw : Nat) (v : (Int × Int)) (hl : L.length ≤ 1000000) :
    Calls Try.prog 35 #[.pointer (some ⟨t, 0, none⟩), .int .i64 key, .int .u32 (draw : Int), .agg #[.int .i64 v.1, .int .i64 v.2]] w fun e w' => e = .returned (.bool (getL key L).isNone) ∧ Own (Sep (RTR t (putL key draw v L)) R) w0 w' := by
  obtain ⟨T, a, k⟩ := h.turned l
  cases hg : getL key L with
  | none => rw [putL_no hg]; exact (putYesR w t T L a key draw v hg (by omega)).mono fun _ _ ⟨e, g⟩ => ⟨e, k g⟩
  | some i => rw [putL_yes hg]; exact (putNoR w t T L a key draw v i hg).mono fun _ _ ⟨e, g⟩ => ⟨e, h.below (Loc.rt.sep l) g⟩
theorem shapePR {R : Res} {w0 w : World} {t : Nat} {L : List (It (Int × Int))} (l : Loc R) (h : Own (Sep (RTR t L) R) w0 w) (hl : L.length ≤ 1000000) :
    Calls Try.prog 41 #[.pointer (some ⟨t, 0, none⟩)] w fun e w' => ∃ v, e = .returned v ∧ NodesV w' v (shp L) ∧ Below w.heap.size w w' ∧ Own (Sep (RTR t L) R) w0 w' := by
  obtain ⟨T, a, _⟩ := h.turned l
  exact (shapeR w t T L a (by omega)).mono fun _ _ ⟨v, e, g, b⟩ => ⟨v, e, nodes_of_owns g, b, h.below (Loc.rt.sep l) b⟩
theorem dropNoPR {R : Res} {w0 w : World} {t : Nat} {L : List (It (Int × Int))} (l : Loc R) (h : Own (Sep (RTR t L) R) w0 w) (key : Int) (hg : getL key L = none) :
    Calls Try.prog 37 #[.pointer (some ⟨t, 0, none⟩), .int .i64 key] w fun e w' => e = .returned (.tuple #[.agg #[.int .i64 0, .int .i64 0], .bool false]) ∧ Own (Sep (RTR t L) R) w0 w' := by
  obtain ⟨T, a, _⟩ := h.turned l
  exact (dropNoR w t T L a key hg).mono fun _ _ ⟨e, g⟩ => ⟨e, h.below (Loc.rt.sep l) g⟩
theorem dropYesPR {R : Res} {w0 w : World} {t : Nat} {L : List (It (Int × Int))} (l : Loc R) (h : Own (Sep (RTR t L) R) w0 w) (key k : Int) (d : Nat) (v : (Int × Int)) (hg : getL key L = some (k, d, v)) (hl : L.length ≤ 1000000) :
    Calls Try.prog 37 #[.pointer (some ⟨t, 0, none⟩), .int .i64 key] w fun e w' => e = .returned (.tuple #[.agg #[.int .i64 v.1, .int .i64 v.2], .bool true]) ∧ Own (Sep (RTR t (delL key L)) R) w0 w' := by
  obtain ⟨T, a, g'⟩ := h.turned l
  exact (dropYesR w t T L a key k d v hg (by omega)).mono fun _ _ ⟨e, g⟩ => ⟨e, g' g⟩
theorem ceilNoPR {R : Res} {w0 w : World} {t : Nat} {L : List (It (Int × Int))} (l : Loc R) (h : Own (Sep (RTR t L) R) w0 w) (key : Int) (hg : ceilL key L = none) :
    Calls Try.prog 39 #[.pointer (some ⟨t, 0, none⟩), .int .i64 key] w fun e w' => e = .returned (.tuple #[.int .i64 0, .agg #[.int .i64 0, .int .i64 0], .bool false]) ∧ Own (Sep (RTR t L) R) w0 w' := by
  obtain ⟨T, a, _⟩ := h.turned l
  exact (ceilNoneR w t T L a key hg).mono fun _ _ ⟨e, g⟩ => ⟨e, h.below (Loc.rt.sep l) g⟩
theorem ceilYesPR {R : Res} {w0 w : World} {t : Nat} {L : List (It (Int × Int))} (l : Loc R) (h : Own (Sep (RTR t L) R) w0 w) (key k : Int) (d : Nat) (v : (Int × Int)) (hg : ceilL key L = some (k, d, v)) :
    Calls Try.prog 39 #[.pointer (some ⟨t, 0, none⟩), .int .i64 key] w fun e w' => e = .returned (.tuple #[.int .i64 k, .agg #[.int .i64 v.1, .int .i64 v.2], .bool true]) ∧ Own (Sep (RTR t L) R) w0 w' := by
  obtain ⟨T, a, _⟩ := h.turned l
  exact (ceilSomeR w t T L a key k d v hg).mono fun _ _ ⟨e, g⟩ => ⟨e, h.below (Loc.rt.sep l) g⟩
theorem keysPR {R : Res} {w0 w : World} {t : Nat} {L : List (It (Int × Int))} (l : Loc R) (h : Own (Sep (RTR t L) R) w0 w) (hl : L.length ≤ 1000000) :
    Calls Try.prog 42 #[.pointer (some ⟨t, 0, none⟩)] w fun e w' => ∃ v, e = .returned v ∧ IntsV w' v (L.map (·.1)) ∧ Below w.heap.size w w' ∧ Own (Sep (RTR t L) R) w0 w' := by
  obtain ⟨T, a, _⟩ := h.turned l
  exact (keysR w t T L a (by omega)).mono fun _ _ ⟨v, e, g, b⟩ => ⟨v, e, ints_of_owns g, b, h.below (Loc.rt.sep l) b⟩
end Go.Proofs.Ytblodflboalbmaa
