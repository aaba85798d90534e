/- A tree of values struct{} beside other things. Printed by tools/gen/tre.py. -/
import Derived.Test.YtafamfjgehnddaaTreSep
import Derived.Test.YtafamfjgehnddaaTreEd
import Derived.Test.YtafamfjgehnddaaTreEk
import Derived.Test.YtafamfjgehnddaaTreEs
namespace Go.Proofs.Ytafamfjgehnddaa
open Go.RowKit

abbrev RTE (t : Nat) (L : List (It Unit)) : Res := RT shE 157 t L

theorem newPE {R : Res} {w0 w : World} (l : Loc R) (h : Own R w0 w) : Calls Try.prog 79 #[] w fun e w' => e = .returned (.pointer (some ⟨w.heap.size, 0, none⟩)) ∧ Own (Sep (RTE w.heap.size []) R) w0 w' :=
  (newE w).mono fun _ _ ⟨h1, h2, h3⟩ => ⟨h1, h.new l h2 h3⟩
theorem putPE {R : Res} {w0 w : World} {t : Nat} {L : List (It Unit)} (l : Loc R) (h : Own (Sep (RTE t L) R) w0 w) (key : Int) (draw : Nat) (v : Unit) (hl : L.length ≤ 1000000) :
    Calls Try.prog 97 #[.pointer (some ⟨t, 0, none⟩), .int .i64 key, .int .u32 (draw : Int), .agg #[]] w fun e w' => e = .returned (.bool (getL key L).isNone) ∧ Own (Sep (RTE t (putL key draw v L)) R) w0 w' := by
  obtain ⟨T, a, k⟩ := h.turned l
  cases hg : getL key L with
  | none => rw [putL_no hg]; exact (putYesE w t T L a key draw v hg (by omega)).mono fun _ _ ⟨e, g⟩ => ⟨e, k g⟩
  | some i => rw [putL_yes hg]; exact (putNoE w t T L a key draw v i hg).mono fun _ _ ⟨e, g⟩ => ⟨e, h.below (Loc.rt.sep l) g⟩
end Go.Proofs.Ytafamfjgehnddaa
