/- The document's example of chapter 2, as the statements ask it: it answers true. Words that are held against each other. -/
import Derived.Test.YtlanfpefifegpaaStoreMade
namespace Go.Proofs.Ytlanfpefifegpaa
open Go.RowKit

theorem below_only {B : Nat} {w w1 w2 : World} {p b : Nat} (h : Below B w w1) (hB : B ≤ w.heap.size) (hp : B ≤ p) (hb : B ≤ b) (ho : Only (fun k => k = p ∨ k = b) w1 w2) : Below B w w2 :=
  h.trans (ho.below (Nat.le_trans hB h.size) (fun i hi => by rcases hi with rfl | rfl <;> assumption))

def exA : St := (St.zero 2).put 1 5
def exB : St := exA.cas 1 4 6
def exC : St := exB.cas 1 5 6

theorem put_ex (w : World) (p b : Nat) (h : StoreAt 53 w p b (St.zero 2)) :
    Calls Try.prog 17 #[.pointer (some ⟨p, 0, none⟩), .int .i64 1, .int .u64 5] w fun e w' => e = .returned (.int .i64 0) ∧ StoreAt 53 w' p b exA ∧ Only (fun k => k = p ∨ k = b) w w' :=
  s_put w p b _ h 1 (by decide +kernel) 5 (by omega)

theorem cas_exB (w : World) (p b : Nat) (h : StoreAt 53 w p b exA) :
    Calls Try.prog 18 #[.pointer (some ⟨p, 0, none⟩), .int .i64 1, .int .u64 4, .int .u64 6] w fun e w' => e = .returned (.tuple #[.int .u64 5, .int .i64 5]) ∧ StoreAt 53 w' p b exB ∧ Only (fun k => k = p ∨ k = b) w w' :=
  s_cas w p b _ h 1 (by decide +kernel) 4 6 (by omega)

theorem cas_exC (w : World) (p b : Nat) (h : StoreAt 53 w p b exB) :
    Calls Try.prog 18 #[.pointer (some ⟨p, 0, none⟩), .int .i64 1, .int .u64 5, .int .u64 6] w fun e w' => e = .returned (.tuple #[.int .u64 5, .int .i64 0]) ∧ StoreAt 53 w' p b exC ∧ Only (fun k => k = p ∨ k = b) w w' :=
  s_cas w p b _ h 1 (by decide +kernel) 5 6 (by omega)

theorem new_ex (w : World) : Calls Try.prog 8 #[.int .i64 2] w fun e w' => ∃ p b, e = .returned (.pointer (some ⟨p, 0, none⟩)) ∧ StoreAt 53 w' p b (St.zero 2) ∧ w.heap.size ≤ p ∧ w.heap.size ≤ b ∧ Below w.heap.size w w' :=
  new_in w 2 (by omega) (by omega)

theorem awake2 (w : World) : Calls Try.prog 16 #[] w fun e w' => e = .returned (.bool true) ∧ Below w.heap.size w w' := by
  go_enter Try.func16, Try.ntmps16
  go_wp2_with fail
  refine (new_ex _).mono ?_
  rintro e w1 ⟨p, b, rfl, hS, hp, hb, hbel⟩
  go_wp2_with fail
  refine (put_ex _ p b hS).mono ?_
  rintro e w2 ⟨rfl, hS2, ho2⟩
  go_wp2_with fail
  refine (cas_exB _ p b hS2).mono ?_
  rintro e w3 ⟨rfl, hS3, ho3⟩
  go_wp2_with fail
  refine (cas_exC _ p b hS3).mono ?_
  rintro e w4 ⟨rfl, hS4, ho4⟩
  go_wp2
  go_ret
  exact ⟨rfl, below_only (below_only (below_only hbel (Nat.le_refl _) hp hb ho2) (Nat.le_refl _) hp hb ho3) (Nat.le_refl _) hp hb ho4⟩

theorem same_words (w : World) (ga gb : Nat) (xs : List Nat) (ha : WordsAt w ga xs) (hb : WordsAt w gb xs) (hl : xs.length ≤ 65536) :
    Calls Try.prog 14 #[.slice (some ⟨ga, 0, none⟩) xs.length xs.length, .slice (some ⟨gb, 0, none⟩) xs.length xs.length] w fun e w' => e = .returned (.bool true) ∧ ∃ q, w' = w.drewN q := by
  go_enter Try.func14, Try.ntmps14
  go_wp2
  go_loopw [5] (fun i wr => ∃ k q : Nat, k ≤ xs.length ∧ i = .int .i64 k ∧ wr = w.drewN q) (fun i _ => xs.length - (intOf i).toNat)
  case atStart => exact ⟨0, 0, by omega, rfl, rfl⟩
  case round =>
    obtain ⟨k, q, hk, rfl, rfl⟩ := hrel
    by_cases hlt : k < xs.length
    · have c1 := ha.cell k hlt
      have c2 := hb.cell k hlt
      generalize xs.getD k 0 = x at *
      go_wp2
      go_quiet (fail)
      go_wp2
      go_roundw
      case rel => exact ⟨k + 1, _, by omega, by go_num, rfl⟩
      case measure => simp [intOf]; omega
    · go_wp2
      go_ret
      exact ⟨rfl, _, rfl⟩

end Go.Proofs.Ytlanfpefifegpaa
