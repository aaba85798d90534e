/- The calls of a store at any place, there or not: no other word is turned. -/
import Derived.Test.YtlanfpefifegpaaStoreOpen
namespace Go.Proofs.Ytlanfpefifegpaa
open Go.RowKit

/-- The store s' is s but for the word t, if there is one. -/
def Near (s s' : St) (t : Int) : Prop := s'.words.length = s.words.length ∧ ∀ j : Nat, (j : Int) ≠ t → s'.words.getD j 0 = s.words.getD j 0

theorem near_access (s : St) (k : Int) (i n : Nat) : Near s (s.access k i n) (i : Int) := ⟨access_len .., fun j hj => access_other _ _ _ _ _ (fun e => hj (by rw [e]))⟩
theorem near_refl (s : St) (t : Int) : Near s s t := ⟨rfl, fun _ _ => rfl⟩

def NearPost (w : World) (p b : Nat) (s : St) (t : Int) (e : Ending) (w' : World) : Prop := ∃ v s', e = .returned v ∧ StoreAt 53 w' p b s' ∧ Near s s' t ∧ Only (fun k => k = p ∨ k = b) w w'

theorem at_cases (s : St) (t : Int) : (∃ i : Nat, t = (i : Int) ∧ i < s.words.length) ∨ (t < 0 ∨ (s.words.length : Int) ≤ t) := by
  by_cases h : t < 0 ∨ (s.words.length : Int) ≤ t
  · exact .inr h
  · exact .inl ⟨t.toNat, by omega, by omega⟩

theorem near_load (w : World) (p b : Nat) (s : St) (h : StoreAt 53 w p b s) (t : Int) :
    Calls Try.prog 20 #[.pointer (some ⟨p, 0, none⟩), .int .i64 t] w (NearPost w p b s t) := by
  rcases at_cases s t with ⟨i, rfl, hi⟩ | ht
  · exact (s_load w p b s h i hi).mono fun e w' ⟨h1, h2, h3⟩ => ⟨_, _, h1, h2, near_access .., h3⟩
  · exact (s_load_out w p b s h t ht).mono fun e w' ⟨h1, h2⟩ => ⟨_, s, h1, h2 ▸ h, near_refl .., h2 ▸ Only.refl _ _⟩

theorem near_put (w : World) (p b : Nat) (s : St) (h : StoreAt 53 w p b s) (t : Int) (v : Nat) (hv : v < 18446744073709551616) :
    Calls Try.prog 17 #[.pointer (some ⟨p, 0, none⟩), .int .i64 t, .int .u64 (v : Int)] w (NearPost w p b s t) := by
  rcases at_cases s t with ⟨i, rfl, hi⟩ | ht
  · exact (s_put w p b s h i hi v hv).mono fun e w' ⟨h1, h2, h3⟩ => ⟨_, _, h1, h2, near_access .., h3⟩
  · exact (s_put_out w p b s h t ht _).mono fun e w' ⟨h1, h2⟩ => ⟨_, s, h1, h2 ▸ h, near_refl .., h2 ▸ Only.refl _ _⟩

theorem near_cas (w : World) (p b : Nat) (s : St) (h : StoreAt 53 w p b s) (t : Int) (o v : Nat) (hv : v < 18446744073709551616) :
    Calls Try.prog 18 #[.pointer (some ⟨p, 0, none⟩), .int .i64 t, .int .u64 (o : Int), .int .u64 (v : Int)] w (NearPost w p b s t) := by
  rcases at_cases s t with ⟨i, rfl, hi⟩ | ht
  · refine (s_cas w p b s h i hi o v hv).mono fun e w' ⟨h1, h2, h3⟩ => ⟨_, _, h1, h2, ?_, h3⟩
    unfold St.cas
    split
    · exact near_access ..
    · exact near_access ..
  · exact (s_cas_out w p b s h t ht _ _).mono fun e w' ⟨h1, h2⟩ => ⟨_, s, h1, h2 ▸ h, near_refl .., h2 ▸ Only.refl _ _⟩

theorem near_add (w : World) (p b : Nat) (s : St) (h : StoreAt 53 w p b s) (t : Int) (v : Nat) :
    Calls Try.prog 19 #[.pointer (some ⟨p, 0, none⟩), .int .i64 t, .int .u64 (v : Int)] w (NearPost w p b s t) := by
  rcases at_cases s t with ⟨i, rfl, hi⟩ | ht
  · exact (s_add w p b s h i hi v).mono fun e w' ⟨h1, h2, h3⟩ => ⟨_, _, h1, h2, near_access .., h3⟩
  · exact (s_add_out w p b s h t ht _).mono fun e w' ⟨h1, h2⟩ => ⟨_, s, h1, h2 ▸ h, near_refl .., h2 ▸ Only.refl _ _⟩

theorem load_first (w : World) (p b : Nat) (s : St) (h : StoreAt 53 w p b s) (hl : 0 < s.words.length) :
    Calls Try.prog 20 #[.pointer (some ⟨p, 0, none⟩), .int .i64 0] w fun e w' => e = .returned (.tuple #[.int .u64 (s.words.getD 0 0 : Nat), .int .i64 0]) ∧ StoreAt 53 w' p b (s.load 0) ∧ Only (fun k => k = p ∨ k = b) w w' :=
  s_load w p b s h 0 hl

theorem new20 (w : World) : Calls Try.prog 8 #[.int .i64 20] w fun e w' => ∃ p b, e = .returned (.pointer (some ⟨p, 0, none⟩)) ∧ StoreAt 53 w' p b (St.zero 20) ∧ w.heap.size ≤ p ∧ w.heap.size ≤ b ∧ Below w.heap.size w w' :=
  new_in w 20 (by omega) (by omega)

theorem words20 (w : World) (p b : Nat) (s : St) (h : StoreAt 53 w p b s) (hl : s.words.length = 20) :
    Calls Try.prog 15 #[.pointer (some ⟨p, 0, none⟩)] w fun e w' => ∃ g, e = .returned (.slice (some ⟨g, 0, none⟩) 20 20) ∧ WordsAt w' g s.words ∧ w.heap.size ≤ g ∧ Below w.heap.size w w' := by
  have := words_of w p b s h
  rw [hl] at this
  exact this

theorem WordsAt.kept {w w' : World} {g : Nat} {xs : List Nat} {S : Nat → Prop} (h : WordsAt w g xs) (ho : Only S w w') (hS : ¬ S g) : WordsAt w' g xs := ⟨(ho.block _ (lt_of_heap h.row) hS).trans h.row⟩
theorem WordsAt.below {w w' : World} {g : Nat} {xs : List Nat} (h : WordsAt w g xs) (ho : Below w.heap.size w w') : WordsAt w' g xs := h.kept (Below.only ho fun _ => False) (fun h => h)

theorem StoreAt.at_set {T : TypeId} {w : World} {p b g o nq : Nat} {s : St} {v : Value} (h : StoreAt T w p b s) (hp : p ≠ g) (hb : b ≠ g) : StoreAt T ((w.setCell ⟨g, o, none⟩ v).drewN nq) p b s :=
  ⟨(heap_setCell_ne hp v).trans h.head, (heap_setCell_ne hb v).trans h.row, h.ne, h.len, h.bd⟩

theorem zero_get (n j : Nat) : (St.zero n).words.getD j 0 = 0 := by
  simp only [St.zero, List.getD_eq_getElem?_getD, List.getElem?_replicate]
  split <;> rfl

theorem zero_len (n : Nat) : (St.zero n).words.length = n := List.length_replicate ..

end Go.Proofs.Ytlanfpefifegpaa
