/- What a law over accesses reads of its list: each is four cells. A store of a number that is reckoned. -/
import Derived.Test.YtlanfpefifegpaaStoreDoCas
namespace Go.Proofs.Ytlanfpefifegpaa
open Go.RowKit

/-- The place k of a list of accesses that came in: four cells. -/
structure OpAt (w : World) (b o k kind : Nat) (t : Int) (v old : Nat) : Prop where
  c0 : w.cell? ⟨b, o + k * 4, none⟩ = some (.int .u8 (kind : Int))
  c1 : w.cell? ⟨b, o + k * 4 + 1, none⟩ = some (.int .i64 t)
  c2 : w.cell? ⟨b, o + k * 4 + 2, none⟩ = some (.int .u64 (v : Int))
  c3 : w.cell? ⟨b, o + k * 4 + 3, none⟩ = some (.int .u64 (old : Int))
  lt : b < w.heap.size
  hk : kind < 256
  hv : v < 18446744073709551616
  ho : old < 18446744073709551616

theorem OpAt.kept {w w' : World} {b o k kind : Nat} {t : Int} {v old : Nat} {B : Nat} (h : OpAt w b o k kind t v old) (hb : Below B w w') (hB : b < B) : OpAt w' b o k kind t v old :=
  ⟨(hb.cell (p := ⟨b, _, none⟩) hB).trans h.c0, (hb.cell (p := ⟨b, _, none⟩) hB).trans h.c1, (hb.cell (p := ⟨b, _, none⟩) hB).trans h.c2, (hb.cell (p := ⟨b, _, none⟩) hB).trans h.c3, Nat.lt_of_lt_of_le h.lt hb.size, h.hk, h.hv, h.ho⟩

/-- A list of accesses that came in: len of them, from an address on. -/
def OpsIn (w : World) (ao : Option Addr) (len : Nat) : Prop := ∀ k, k < len → ∃ b o kind t v old, ao = some ⟨b, o, none⟩ ∧ OpAt w b o k kind t v old

theorem new_inI (w : World) (t : Int) (h1 : 1 ≤ t) (h2 : t ≤ 65536) :
    Calls Try.prog 8 #[.int .i64 t] w fun e w' => ∃ p b, e = .returned (.pointer (some ⟨p, 0, none⟩)) ∧ StoreAt 53 w' p b (St.zero t.toNat) ∧ w.heap.size ≤ p ∧ w.heap.size ≤ b ∧ Below w.heap.size w w' := by
  obtain ⟨n, rfl⟩ : ∃ n : Nat, t = (n : Int) := ⟨t.toNat, by omega⟩
  exact new_in w n (by omega) (by omega)

theorem rnew_inI (w : World) (t : Int) (h1 : 1 ≤ t) (h2 : t ≤ 65536) :
    Calls Try.prog 9 #[.int .i64 t] w fun e w' => ∃ p b, e = .returned (.pointer (some ⟨p, 0, none⟩)) ∧ StoreAt 36 w' p b (St.zero t.toNat) ∧ w.heap.size ≤ p ∧ w.heap.size ≤ b ∧ Below w.heap.size w w' := by
  obtain ⟨n, rfl⟩ : ∃ n : Nat, t = (n : Int) := ⟨t.toNat, by omega⟩
  exact rnew_in w n (by omega) (by omega)

theorem last_ofA (w : World) (p b : Nat) (s : St) (h : StoreAt 53 w p b s) :
    Calls Try.prog 11 #[.pointer (some ⟨p, 0, none⟩)] w fun e w' => e = .returned (.agg #[.int .i64 s.kind, .int .i64 s.place, .int .u64 (s.old : Int), .int .u64 (s.new : Int)]) ∧ Below w.heap.size w w' := last_of w p b s h

theorem below_four {B : Nat} {w w1 w2 : World} {p b q c : Nat} (h : Below B w w1) (hB : B ≤ w.heap.size) (hp : B ≤ p) (hb : B ≤ b) (hq : B ≤ q) (hc : B ≤ c) (ho : Only (Four p b q c) w1 w2) : Below B w w2 :=
  h.trans (ho.below (Nat.le_trans hB h.size) (fun i hi => by rcases hi with rfl | rfl | rfl | rfl <;> assumption))

theorem Both.below {w w' : World} {p b q c : Nat} {s : St} (h : Both w p b q c s) (hb : Below w.heap.size w w') : Both w' p b q c s := ⟨h.sa.below hb, h.ra.below hb, h.ne⟩

end Go.Proofs.Ytlanfpefifegpaa
