/- What the calls of a store answer, and what becomes of it, each at every store and every argument: of the program's store, and of the document's. -/
import Derived.Test.YtafamfjgehnddaaBase
import Derived.Test.YtafamfjgehnddaaHeap
namespace Go.Proofs.Ytafamfjgehnddaa
open Go.RowKit

/-- What a store holds: its words, what the last access did (kind, place, old, new), how many there were. -/
structure St where
  words : List Nat
  kind : Int
  place : Int
  old : Nat
  new : Nat
  count : Int

def St.zero (n : Nat) : St := ⟨List.replicate n 0, 0, 0, 0, 0, 0⟩

/-- An access of the word i. -/
def St.access (s : St) (kind : Int) (i : Nat) (next : Nat) : St := ⟨s.words.set i next, kind, i, s.words.getD i 0, next, wrap64 (s.count + 1)⟩

/-- The store s (of type T) lies at block p, its words at block b. -/
structure StoreAt (T : TypeId) (w : World) (p b : Nat) (s : St) : Prop where
  head : w.heap[p]? = some (.cells #[.slice (some ⟨b, 0, none⟩) s.words.length s.words.length, .int .i64 s.kind, .int .i64 s.place, .int .u64 s.old, .int .u64 s.new, .int .i64 s.count] T (0, 0))
  row : w.heap[b]? = some (.cells (wordVals s.words).toArray 48 (0, 0))
  ne : p ≠ b
  len : s.words.length ≤ 65536
  bd : ∀ x ∈ s.words, x < 18446744073709551616

theorem getD_lt (l : List Nat) (h : ∀ x ∈ l, x < 18446744073709551616) (i : Nat) : l.getD i 0 < 18446744073709551616 := by
  by_cases hi : i < l.length
  · rw [List.getD_eq_getElem?_getD, List.getElem?_eq_getElem hi]; exact h _ (List.getElem_mem _)
  · rw [List.getD_eq_getElem?_getD, List.getElem?_eq_none (by omega)]; simp

theorem set_lt (l : List Nat) (h : ∀ x ∈ l, x < 18446744073709551616) (i v : Nat) (hv : v < 18446744073709551616) : ∀ x ∈ l.set i v, x < 18446744073709551616 := by
  intro x hx
  rcases List.mem_or_eq_of_mem_set hx with hx | rfl
  · exact h x hx
  · exact hv

/-- Where no block of the store is turned it lies as it lay. -/
theorem StoreAt.kept {T : TypeId} {S : Nat → Prop} {w w' : World} {p b : Nat} {s : St} (h : StoreAt T w p b s) (ho : Only S w w') (hp : ¬ S p) (hb : ¬ S b) : StoreAt T w' p b s :=
  ⟨(ho.block p (lt_of_heap h.head) hp).trans h.head, (ho.block b (lt_of_heap h.row) hb).trans h.row, h.ne, h.len, h.bd⟩

theorem StoreAt.below {T : TypeId} {w w' : World} {p b : Nat} {s : St} (h : StoreAt T w p b s) (ho : Below w.heap.size w w') : StoreAt T w' p b s :=
  h.kept (Below.only ho (fun _ => False)) (fun h => h) (fun h => h)

theorem StoreAt.step {T : TypeId} {w : World} {p b : Nat} {s : St} (h : StoreAt T w p b s) (kind : Int) (i : Nat) (next x : Nat) (hn : next < 18446744073709551616) (hx : s.words.getD i 0 = x) :
    StoreAt T ((((((w.setCell ⟨b, i, none⟩ (.int .u64 (next : Int))).setCell ⟨p, 1, none⟩ (.int .i64 kind)).setCell ⟨p, 2, none⟩ (.int .i64 (i : Int))).setCell ⟨p, 3, none⟩ (.int .u64 (x : Int))).setCell ⟨p, 4, none⟩ (.int .u64 (next : Int))).setCell ⟨p, 5, none⟩ (.int .i64 (wrap64 (s.count + 1))))
      p b (s.access kind i next) ∧
    Only (fun k => k = p ∨ k = b) w ((((((w.setCell ⟨b, i, none⟩ (.int .u64 (next : Int))).setCell ⟨p, 1, none⟩ (.int .i64 kind)).setCell ⟨p, 2, none⟩ (.int .i64 (i : Int))).setCell ⟨p, 3, none⟩ (.int .u64 (x : Int))).setCell ⟨p, 4, none⟩ (.int .u64 (next : Int))).setCell ⟨p, 5, none⟩ (.int .i64 (wrap64 (s.count + 1)))) := by
  obtain ⟨h1, h2, h3, h4, h5⟩ := h
  subst hx
  refine ⟨⟨?_, ?_, h3, by simpa [St.access] using h4, set_lt _ h5 i next hn⟩, ?_⟩
  · have e0 : (w.setCell ⟨b, i, none⟩ (.int .u64 (next : Int))).heap[p]? = _ := (heap_setCell_ne h3 _).trans h1
    have e1 := heap_setCell_at (o := 5) (heap_setCell_at (o := 4) (heap_setCell_at (o := 3) (heap_setCell_at (o := 2) (heap_setCell_at (o := 1) e0 (.int .i64 kind)) (.int .i64 (i : Int))) (.int .u64 (s.words.getD i 0 : Int))) (.int .u64 (next : Int))) (.int .i64 (wrap64 (s.count + 1)))
    rw [e1]
    simp [St.access]
  · have hb : b ≠ p := fun e => h3 e.symm
    rw [heap_setCell_ne hb, heap_setCell_ne hb, heap_setCell_ne hb, heap_setCell_ne hb, heap_setCell_ne hb, heap_setCell_at h2, wordVals_set]
    rfl
  · exact ((((((Only.refl _ w).setCell (.inl (.inr rfl)) _).setCell (.inl (.inl rfl)) _).setCell (.inl (.inl rfl)) _).setCell (.inl (.inl rfl)) _).setCell (.inl (.inl rfl)) _).setCell (.inl (.inl rfl)) _

theorem access (w : World) (p b : Nat) (s : St) (h : StoreAt 104 w p b s) (kind : Int) (i : Nat) (hi : i < s.words.length) (next : Nat) (hn : next < 18446744073709551616) :
    Calls Try.prog 67 #[.pointer (some ⟨p, 0, none⟩), .int .i64 kind, .int .i64 (i : Int), .int .u64 (next : Int)] w fun e w' =>
      e = .returned (.int .u64 (s.words.getD i 0 : Nat)) ∧ StoreAt 104 w' p b (s.access kind i next) ∧ Only (fun k => k = p ∨ k = b) w w' := by
  obtain ⟨x, hx⟩ : ∃ x, s.words.getD i 0 = x := ⟨_, rfl⟩
  have c0 : w.cell? ⟨p, 0, none⟩ = some (.slice (some ⟨b, 0, none⟩) s.words.length s.words.length) := cell_of_heap h.head
  have c1 : w.cell? ⟨p, 1, none⟩ = some (.int .i64 s.kind) := cell_of_heap h.head
  have c3 : w.cell? ⟨p, 2, none⟩ = some (.int .i64 s.place) := cell_of_heap h.head
  have c4 : w.cell? ⟨p, 3, none⟩ = some (.int .u64 s.old) := cell_of_heap h.head
  have c5 : w.cell? ⟨p, 4, none⟩ = some (.int .u64 s.new) := cell_of_heap h.head
  have c6 : w.cell? ⟨p, 5, none⟩ = some (.int .i64 s.count) := cell_of_heap h.head
  have f1 : ∀ o, w.frozen? ⟨p, o, none⟩ = false := fun o => frozen_of_heap h.head
  have f2 : ∀ o, w.frozen? ⟨b, o, none⟩ = false := fun o => frozen_of_heap h.row
  have hl := h.len
  have c2 : w.cell? ⟨b, i, none⟩ = some (.int .u64 (x : Int)) := (cell_of_heap h.row).trans ((wordVals_get _ _ hi).trans (by rw [hx]))
  have R := hide (h.step kind i next x hn hx)
  have hne := h.ne
  rw [hx]
  clear h hx
  go_enter Try.func67, Try.ntmps67
  go_wp2
  go_ret
  exact ⟨rfl, R.out⟩

end Go.Proofs.Ytafamfjgehnddaa
