/- The calls of a store, seen at one of its words alone. -/
import Derived.Test.YtlanfpefifegpaaStoreAwake
namespace Go.Proofs.Ytlanfpefifegpaa
open Go.RowKit

/-- A store of n words lies there, whose word i is x. -/
def StoreHas (w : World) (p b n i x : Nat) : Prop := ∃ s, StoreAt 53 w p b s ∧ s.words.length = n ∧ s.words.getD i 0 = x ∧ i < n

theorem access_len (s : St) (k : Int) (i n : Nat) : (s.access k i n).words.length = s.words.length := by simp [St.access]
theorem access_get (s : St) (k : Int) (i n : Nat) (hi : i < s.words.length) : (s.access k i n).words.getD i 0 = n := by simp [St.access, hi]
theorem access_other (s : St) (k : Int) (i j n : Nat) (h : j ≠ i) : (s.access k i n).words.getD j 0 = s.words.getD j 0 := by
  simp [St.access, h.symm]

theorem StoreHas.acc {w' : World} {p b n i y : Nat} {s : St} {k : Int} (h : StoreAt 53 w' p b (s.access k i y)) (hl : s.words.length = n) (hi : i < n) : StoreHas w' p b n i y :=
  ⟨_, h, by rw [access_len, hl], access_get _ _ _ _ (by omega), hi⟩

theorem put_at (w : World) (p b n i x : Nat) (h : StoreHas w p b n i x) (v : Nat) (hv : v < 18446744073709551616) :
    Calls Try.prog 17 #[.pointer (some ⟨p, 0, none⟩), .int .i64 (i : Int), .int .u64 (v : Int)] w fun e w' => e = .returned (.int .i64 0) ∧ StoreHas w' p b n i v ∧ Only (fun k => k = p ∨ k = b) w w' := by
  obtain ⟨s, hs, hl, hx, hi⟩ := h
  exact (s_put w p b s hs i (by omega) v hv).mono fun e w' ⟨h1, h2, h3⟩ => ⟨h1, StoreHas.acc h2 hl hi, h3⟩

theorem cas_at (w : World) (p b n i x : Nat) (h : StoreHas w p b n i x) (o v : Nat) (hv : v < 18446744073709551616) (c : Int) (y : Nat) (hc : (if x = o then (0 : Int) else 5) = c) (hy : (if x = o then v else x) = y) :
    Calls Try.prog 18 #[.pointer (some ⟨p, 0, none⟩), .int .i64 (i : Int), .int .u64 (o : Int), .int .u64 (v : Int)] w fun e w' => e = .returned (.tuple #[.int .u64 (x : Int), .int .i64 c]) ∧ StoreHas w' p b n i y ∧ Only (fun k => k = p ∨ k = b) w w' := by
  obtain ⟨s, hs, hl, rfl, hi⟩ := h
  subst hc
  subst hy
  refine (s_cas w p b s hs i (by omega) o v hv).mono fun e w' ⟨h1, h2, h3⟩ => ⟨h1, ?_, h3⟩
  unfold St.cas at h2
  by_cases e : s.words.getD i 0 = o
  · rw [if_pos e] at h2 ⊢; exact StoreHas.acc h2 hl hi
  · rw [if_neg e] at h2 ⊢; exact StoreHas.acc h2 hl hi

theorem add_at (w : World) (p b n i x : Nat) (h : StoreHas w p b n i x) (v y : Nat) (hy : (x + v) % 18446744073709551616 = y) :
    Calls Try.prog 19 #[.pointer (some ⟨p, 0, none⟩), .int .i64 (i : Int), .int .u64 (v : Int)] w fun e w' => e = .returned (.tuple #[.int .u64 (x : Int), .int .i64 0]) ∧ StoreHas w' p b n i y ∧ Only (fun k => k = p ∨ k = b) w w' := by
  obtain ⟨s, hs, hl, rfl, hi⟩ := h
  subst hy
  exact (s_add w p b s hs i (by omega) v).mono fun e w' ⟨h1, h2, h3⟩ => ⟨h1, StoreHas.acc h2 hl hi, h3⟩

theorem load_at (w : World) (p b n i x : Nat) (h : StoreHas w p b n i x) :
    Calls Try.prog 20 #[.pointer (some ⟨p, 0, none⟩), .int .i64 (i : Int)] w fun e w' => e = .returned (.tuple #[.int .u64 (x : Int), .int .i64 0]) ∧ StoreHas w' p b n i x ∧ Only (fun k => k = p ∨ k = b) w w' := by
  obtain ⟨s, hs, hl, rfl, hi⟩ := h
  exact (s_load w p b s hs i (by omega)).mono fun e w' ⟨h1, h2, h3⟩ => ⟨h1, StoreHas.acc h2 hl hi, h3⟩

end Go.Proofs.Ytlanfpefifegpaa
