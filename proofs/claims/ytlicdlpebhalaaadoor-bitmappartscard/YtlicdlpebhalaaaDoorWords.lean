/- Lists of words in memory; and what the calls that ask for one bit of a list answer, of the program and of the document, each at every list and every place. -/
import Derived.Test.YtlicdlpebhalaaaDoorBase
import Derived.Test.YtlicdlpebhalaaaDoorHeap
import Derived.Test.YtlicdlpebhalaaaDoorLeaves
import Derived.Test.YtlicdlpebhalaaaDoorAwake
import Derived.Test.YtlicdlpebhalaaaDoorBitm
namespace Go.Proofs.YtlicdlpebhalaaaDoor
open Go.RowKit

/-- The words of l lie where a points. -/
def WordsIn (W : World) (a : Option Addr) (l : List Nat) : Prop :=
  l ≠ [] → ∃ g o, a = some ⟨g, o, none⟩ ∧ g < W.heap.size ∧ ∀ i, i < l.length → W.cell? ⟨g, o + i, none⟩ = some (.int .u64 (l.getD i 0 : Int))

theorem WordsIn.below {W W' : World} {n : Nat} {a : Option Addr} {l : List Nat} (h : WordsIn W a l) (hb : Below n W W') (hn : W.heap.size ≤ n) : WordsIn W' a l := fun hne => by
  obtain ⟨g, o, e, h2, h3⟩ := h hne
  exact ⟨g, o, e, Nat.lt_of_lt_of_le h2 hb.size, fun i hi => (hb.cell (p := ⟨g, o + i, none⟩) (by simp; omega)).trans (h3 i hi)⟩

theorem WordsIn.drewN {W : World} {a : Option Addr} {l : List Nat} (h : WordsIn W a l) (q : Nat) : WordsIn (W.drewN q) a l := h.below (below_drewN (Below.refl W.heap.size W) q) (Nat.le_refl _)
theorem WordsIn.alloc {W : World} {a : Option Addr} {l : List Nat} (h : WordsIn W a l) (o : Obj) : WordsIn (W.alloc o) a l := h.below ((Below.refl W.heap.size W).alloc (Nat.le_refl _) o) (Nat.le_refl _)

/-- The word that bit i lies in. -/
theorem WordsIn.word {W : World} {a : Option Addr} {l : List Nat} (h : WordsIn W a l) {q : Nat} (hq : q < l.length) : ∃ g o, a = some ⟨g, o, none⟩ ∧ g < W.heap.size ∧ W.cell? ⟨g, o + q, none⟩ = some (.int .u64 (l.getD q 0 : Int)) := by
  obtain ⟨g, o, e, h2, h3⟩ := h (fun e => by simp [e] at hq)
  exact ⟨g, o, e, h2, h3 q hq⟩

theorem bitsOf27 (a : Option Addr) (n c : Nat) (hn : n ≤ 72057594037927936) (w : World) : Calls Tryd.prog 27 #[.slice a n c] w fun e w' => e = .returned (.int .i64 ((64 * n : Nat) : Int)) ∧ w' = w := by
  go_enter Tryd.func27, Tryd.ntmps27
  go_wp2
  go_ret
  exact ⟨ret_int (by omega), rfl⟩

/-- n, but from 0 to how many bits there are. -/
def heldN (n : Int) (k : Nat) : Nat := min n.toNat (64 * k)
theorem heldN_le (n : Int) (k : Nat) : heldN n k ≤ 64 * k := by unfold heldN; omega

theorem bheld31 (a : Option Addr) (k c : Nat) (hk : k ≤ 72057594037927936) (n : Int) (w : World) : Calls Tryd.prog 31 #[.slice a k c, .int .i64 n] w fun e w' => e = .returned (.int .i64 (heldN n k)) ∧ w' = w := by
  have H := fun w => hide (bitsOf27 a k c hk w)
  go_enter Tryd.func31, Tryd.ntmps31
  go_wp2_with (go_at_call 27; refine (H _).out.mono ?_; rintro e w' ⟨rfl, rfl⟩)
  all_goals go_ret
  all_goals exact ⟨ret_int (by unfold heldN; omega), rfl⟩

theorem fld_one (x r : Nat) : (((Plain.fld x r 1 : Nat) : Int) == 1) = x.testBit r := by
  have e : Plain.fld x r 1 = (x >>> r) % 2 := by
    unfold Plain.fld Plain.ones
    rw [show 2 ^ 1 - 1 = 1 from rfl, Nat.and_one_is_mod, Nat.shiftRight_eq_div_pow]
  rw [e, Nat.testBit_eq_decide_div_mod_eq, Nat.shiftRight_eq_div_pow]
  rcases Nat.mod_two_eq_zero_or_one (x / 2 ^ r) with h | h <;> rw [h] <;> rfl

/-- Is bit i of l set? -/
def hasAns (l : List Nat) (i : Int) : Bool := decide (0 ≤ i) && Bitm.bit l i.toNat
theorem hasAns_nat (l : List Nat) (i : Nat) : hasAns l (i : Int) = Bitm.bit l i := by simp [hasAns]
theorem hasAns_neg (l : List Nat) (i : Int) (h : i < 0) : hasAns l i = false := by simp [hasAns]; omega
theorem hasAns_over (l : List Nat) (i : Int) (h : 64 * l.length ≤ i) : hasAns l i = false := by
  have : Bitm.bit l i.toNat = false := Bitm.bit_beyond _ _ (by omega)
  simp [hasAns, this]

theorem has15 (l : List Nat) (hl : l.length ≤ 72057594037927936) (hf : Bitm.Fit l) (a : Option Addr) (c : Nat) (i : Int) (hi1 : -9223372036854775808 ≤ i) (hi2 : i ≤ 9223372036854775807) (w : World) (h : WordsIn w a l) :
    Calls Tryd.prog 15 #[.slice a l.length c, .int .i64 i] w fun e w' => e = .returned (.bool (hasAns l i)) ∧ ∃ q, w' = w.drewN q := by
  have HB := fun w => hide (bitsOf27 a l.length c hl w)
  by_cases h0 : 0 ≤ i
  · by_cases h1 : i < ((64 * l.length : Nat) : Int)
    · obtain ⟨k, rfl⟩ : ∃ k : Nat, i = (k : Int) := ⟨i.toNat, by omega⟩
      obtain ⟨g, o, rfl, hg, hc⟩ := h.word (q := k / 64) (by omega)
      rw [hasAns_nat]
      have hx := Bitm.getD_fit hf (k / 64)
      have hA : Hid (Bitm.bit l k = (l.getD (k / 64) 0).testBit (k % 64)) := rfl
      generalize l.getD (k / 64) 0 = x at *
      have HK := hide (fld_one x (k % 64))
      have hF := fun w => hide (fieldI x hx ((k % 64 : Nat) : Int) 1 (k % 64) 1 rfl rfl (by omega) w)
      have hq : ((k : Int) / 64) = ((k / 64 : Nat) : Int) := by simp
      have hr : ((k : Int) % 64) = ((k % 64 : Nat) : Int) := by simp
      have hq' : k / 64 < l.length := by omega
      generalize k / 64 = q at *
      generalize k % 64 = r at *
      clear h hf
      generalize l.length = n at *
      go_enter Tryd.func15, Tryd.ntmps15
      go_wp2_with (first | (go_at_call 27; refine (HB _).out.mono ?_; rintro e w' ⟨rfl, rfl⟩) | (go_at_call 32; refine (hF _).out.mono ?_; rintro e w' ⟨rfl, q', rfl⟩))
      go_ret
      exact ⟨ret_bool (by rw [hA.out, HK.out]), q', rfl⟩
    · rw [hasAns_over _ _ (by omega)]
      clear h hf
      generalize l.length = n at *
      go_enter Tryd.func15, Tryd.ntmps15
      go_wp2_with (first | (go_at_call 27; refine (HB _).out.mono ?_; rintro e w' ⟨rfl, rfl⟩))
      go_ret
      exact ⟨rfl, 0, rfl⟩
  · rw [hasAns_neg _ _ (by omega)]
    clear h hf HB
    generalize l.length = n at *
    go_enter Tryd.func15, Tryd.ntmps15
    go_wp2
    go_ret
    exact ⟨rfl, 0, rfl⟩

theorem rhas16 (l : List Nat) (hl : l.length ≤ 72057594037927936) (hf : Bitm.Fit l) (a : Option Addr) (c : Nat) (i : Int) (hi1 : -9223372036854775808 ≤ i) (hi2 : i ≤ 9223372036854775807) (w : World) (h : WordsIn w a l) :
    Calls Tryd.prog 16 #[.slice a l.length c, .int .i64 i] w fun e w' => e = .returned (.bool (hasAns l i)) ∧ w' = w := by
  by_cases h0 : 0 ≤ i
  · by_cases h1 : i < ((64 * l.length : Nat) : Int)
    · obtain ⟨k, rfl⟩ : ∃ k : Nat, i = (k : Int) := ⟨i.toNat, by omega⟩
      obtain ⟨g, o, rfl, hg, hc⟩ := h.word (q := k / 64) (by omega)
      rw [hasAns_nat]
      have hx := Bitm.getD_fit hf (k / 64)
      have hA : Hid (Bitm.bit l k = (l.getD (k / 64) 0).testBit (k % 64)) := rfl
      generalize l.getD (k / 64) 0 = x at *
      have hF := fun w => hide (bit29 x hx ((k % 64 : Nat) : Int) w)
      have HK : Hid (bitAt x ((k % 64 : Nat) : Int) = x.testBit (k % 64)) := by
        show bitAt x ((k % 64 : Nat) : Int) = x.testBit (k % 64)
        have : k % 64 < 64 := by omega
        simp only [bitAt, Int.toNat_natCast]
        rw [decide_eq_true (by omega), Bool.true_and]
      have hq : ((k : Int) / 64) = ((k / 64 : Nat) : Int) := by simp
      have hr : ((k : Int) % 64) = ((k % 64 : Nat) : Int) := by simp
      have hq' : k / 64 < l.length := by omega
      generalize k / 64 = q at *
      generalize k % 64 = r at *
      clear h hf
      have h1' : ((k : Int) < 64 * (l.length : Int)) := by omega
      generalize l.length = n at *
      go_enter Tryd.func16, Tryd.ntmps16
      go_wp2_with (first | (go_at_call 33; refine (hF _).out.mono ?_; rintro e w' ⟨rfl, rfl⟩))
      go_ret
      exact ⟨ret_bool (by rw [hA.out, HK.out]), rfl⟩
    · rw [hasAns_over _ _ (by omega)]
      clear h hf
      generalize l.length = n at *
      have h1' : ¬ (i < 64 * (n : Int)) := by omega
      go_enter Tryd.func16, Tryd.ntmps16
      go_wp2
      go_ret
      exact ⟨rfl, rfl⟩
  · rw [hasAns_neg _ _ (by omega)]
    clear h hf
    generalize l.length = n at *
    go_enter Tryd.func16, Tryd.ntmps16
    go_wp2
    go_ret
    exact ⟨rfl, rfl⟩

end Go.Proofs.YtlicdlpebhalaaaDoor
