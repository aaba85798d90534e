/- A store that is made, and what it tells of itself: New, Last, Count, Len, Words; words that are held against each other. -/
import Derived.Test.YtafamfjgehnddaaStoreCalls
import Derived.Laws.CopyOwn
namespace Go.Proofs.Ytafamfjgehnddaa
open Go.RowKit

theorem infoU64 : (Try.prog.info? 48).map (fun i => (i.zero, i.size, i.bytes)) = some (some (.int .u64 0), 1, 8) := by kernel_rfl

theorem made_zero (n : Nat) : (madeCells (Value.int .u64 0).cells (n * 1)).toList = wordVals (List.replicate n 0) := by
  have e : (Value.int .u64 0).cells = #[Value.int .u64 0] := by kernel_rfl
  rw [e]
  simp only [madeCells, wordVals, Nat.mul_one, Array.toList_map, Array.toList_range, List.map_replicate]
  rw [List.eq_replicate_iff]
  refine ⟨by simp, ?_⟩
  intro b hb
  obtain ⟨j, _, rfl⟩ := List.mem_map.1 hb
  simp [Nat.mod_one]

theorem owned_row {w : World} {base g n : Nat} {e : TypeId} {xs : List Value} (h : w.ownsRow base e 1 (.slice (some ⟨g, 0, none⟩) n n) n xs) : w.heap[g]? = some (.cells xs.toArray e (0, 0)) := by
  obtain ⟨hl, h | ⟨g', cap, cur, hv, hb, hh, h1, h2, h3, h4⟩⟩ := h
  · cases h.1
  · cases hv
    rw [hh]
    have : cur.toList = xs := by rw [← h4, List.take_of_length_le (by simp; omega)]
    rw [← this]

/-- What follows of a row that was made, and a head that was boxed behind it. -/
theorem StoreAt.made {T : TypeId} {w w1 : World} {n : Nat} (hn : n ≤ 65536) (hg : w.grownBy w1 none) (hr : w1.heap[w.heap.size]? = some (.cells (wordVals (List.replicate n 0)).toArray 48 (0, 0))) :
    StoreAt T (w1.alloc (.cells #[.slice (some ⟨w.heap.size, 0, none⟩) n n, .int .i64 0, .int .i64 0, .int .u64 0, .int .u64 0, .int .i64 0] T)) w1.heap.size w.heap.size (St.zero n) ∧
    Below w.heap.size w (w1.alloc (.cells #[.slice (some ⟨w.heap.size, 0, none⟩) n n, .int .i64 0, .int .i64 0, .int .u64 0, .int .u64 0, .int .i64 0] T)) := by
  have hs := lt_of_heap hr
  refine ⟨⟨?_, heap_alloc_old hr, by omega, by simp [St.zero]; omega, by simp [St.zero]⟩, ?_⟩
  · rw [heap_alloc_at]; simp [St.zero]
  · exact ((Below.refl _ w).grown hg (Nat.le_refl _) (by simp)).alloc hg.size _

set_option maxRecDepth 100000 in
theorem new_in (w : World) (n : Nat) (h1 : 1 ≤ n) (h2 : n ≤ 65536) :
    Calls Try.prog 77 #[.int .i64 (n : Int)] w fun e w' => ∃ p b, e = .returned (.pointer (some ⟨p, 0, none⟩)) ∧ StoreAt 104 w' p b (St.zero n) ∧ w.heap.size ≤ p ∧ w.heap.size ≤ b ∧ Below w.heap.size w w' := by
  obtain ⟨i0, hi, hz0, hz1, hz2⟩ := info_parts infoU64
  go_enter Try.func77, Try.ntmps77
  go_wp2_with (at_make; refine wpList_make_full _ rfl _ _ 67 rfl w.heap.size 48 i0 (.int .u64 0) 1 Try.underlying67 hi hz0 hz1 .i64 .i64 _ _ n rfl rfl rfl rfl (by rw [hz2]; omega) (by unfold maxLen; omega) (Nat.le_refl _) ?_; intro w1 hown hgrow; have hrow := hide (owned_row hown); clear hown)
  go_ret
  rw [made_zero] at hrow
  obtain ⟨r1, r2⟩ := StoreAt.made h2 hgrow hrow.out
  exact ⟨_, _, rfl, r1, hgrow.size, Nat.le_refl _, r2⟩

theorem new_out (w : World) (n : Int) (h : n < 1 ∨ 65536 < n) : Calls Try.prog 77 #[.int .i64 n] w fun e w' => e = .returned (.pointer none) ∧ w' = w := by
  by_cases h0 : n < 1
  · clear h
    go_enter Try.func77, Try.ntmps77
    go_wp2
    go_ret
    exact ⟨rfl, rfl⟩
  · have h1 : 65536 < n := by omega
    clear h
    go_enter Try.func77, Try.ntmps77
    go_wp2
    go_ret
    exact ⟨rfl, rfl⟩

set_option maxRecDepth 100000 in
theorem rnew_in (w : World) (n : Nat) (h1 : 1 ≤ n) (h2 : n ≤ 65536) :
    Calls Try.prog 85 #[.int .i64 (n : Int)] w fun e w' => ∃ p b, e = .returned (.pointer (some ⟨p, 0, none⟩)) ∧ StoreAt 151 w' p b (St.zero n) ∧ w.heap.size ≤ p ∧ w.heap.size ≤ b ∧ Below w.heap.size w w' := by
  obtain ⟨i0, hi, hz0, hz1, hz2⟩ := info_parts infoU64
  go_enter Try.func85, Try.ntmps85
  go_wp2_with (at_make; refine wpList_make_full _ rfl _ _ 67 rfl w.heap.size 48 i0 (.int .u64 0) 1 Try.underlying67 hi hz0 hz1 .i64 .i64 _ _ n rfl rfl rfl rfl (by rw [hz2]; omega) (by unfold maxLen; omega) (Nat.le_refl _) ?_; intro w1 hown hgrow; have hrow := hide (owned_row hown); clear hown)
  go_ret
  rw [made_zero] at hrow
  obtain ⟨r1, r2⟩ := StoreAt.made h2 hgrow hrow.out
  exact ⟨_, _, rfl, r1, hgrow.size, Nat.le_refl _, r2⟩

theorem count_of (w : World) (p b : Nat) (s : St) (h : StoreAt 104 w p b s) :
    Calls Try.prog 31 #[.pointer (some ⟨p, 0, none⟩)] w fun e w' => e = .returned (.int .i64 s.count) ∧ w' = w := by
  have c6 : w.cell? ⟨p, 5, none⟩ = some (.int .i64 s.count) := cell_of_heap h.head
  clear h
  go_enter Try.func31, Try.ntmps31
  go_wp2
  go_ret
  exact ⟨rfl, rfl⟩

theorem count_nil (w : World) : Calls Try.prog 31 #[.pointer none] w fun e w' => e = .returned (.int .i64 0) ∧ w' = w := by
  go_enter Try.func31, Try.ntmps31
  go_wp2
  go_ret
  exact ⟨rfl, rfl⟩

theorem len_of (w : World) (p b : Nat) (s : St) (h : StoreAt 104 w p b s) :
    Calls Try.prog 65 #[.pointer (some ⟨p, 0, none⟩)] w fun e w' => e = .returned (.int .i64 (s.words.length : Nat)) ∧ w' = w := by
  have c0 : w.cell? ⟨p, 0, none⟩ = some (.slice (some ⟨b, 0, none⟩) s.words.length s.words.length) := cell_of_heap h.head
  clear h
  go_enter Try.func65, Try.ntmps65
  go_wp2
  go_ret
  exact ⟨rfl, rfl⟩

theorem len_nil (w : World) : Calls Try.prog 65 #[.pointer none] w fun e w' => e = .returned (.int .i64 0) ∧ w' = w := by
  go_enter Try.func65, Try.ntmps65
  go_wp2
  go_ret
  exact ⟨rfl, rfl⟩

def St.did (s : St) : Value := .agg #[.int .i64 s.kind, .int .i64 s.place, .int .u64 (s.old : Int), .int .u64 (s.new : Int)]
def noDid : Value := .agg #[.int .i64 0, .int .i64 0, .int .u64 0, .int .u64 0]

theorem last_of (w : World) (p b : Nat) (s : St) (h : StoreAt 104 w p b s) :
    Calls Try.prog 41 #[.pointer (some ⟨p, 0, none⟩)] w fun e w' => e = .returned s.did ∧ Below w.heap.size w w' := by
  have c1 : w.cell? ⟨p, 1, none⟩ = some (.int .i64 s.kind) := cell_of_heap h.head
  have c3 : w.cell? ⟨p, 2, none⟩ = some (.int .i64 s.place) := cell_of_heap h.head
  have c4 : w.cell? ⟨p, 3, none⟩ = some (.int .u64 s.old) := cell_of_heap h.head
  have c5 : w.cell? ⟨p, 4, none⟩ = some (.int .u64 s.new) := cell_of_heap h.head
  have hp := lt_of_heap h.head
  clear h
  go_enter Try.func41, Try.ntmps41
  go_wp2
  exact bodyPost_ret (v := s.did) (by simp [results, Try.results41, go_sem, St.did]) rfl ⟨rfl, (Below.refl _ _).alloc (Nat.le_refl _) _⟩

theorem last_nil (w : World) : Calls Try.prog 41 #[.pointer none] w fun e w' => e = .returned noDid ∧ Below w.heap.size w w' := by
  go_enter Try.func41, Try.ntmps41
  go_wp2
  exact bodyPost_ret (v := noDid) (by simp [results, Try.results41, go_sem, noDid]) rfl ⟨rfl, (Below.refl _ _).alloc (Nat.le_refl _) _⟩

/-- Words in a row of their own, which a slice of all of it names. -/
structure WordsAt (w : World) (g : Nat) (xs : List Nat) : Prop where
  row : w.heap[g]? = some (.cells (wordVals xs).toArray 48 (0, 0))

theorem WordsAt.cell {w : World} {g : Nat} {xs : List Nat} (h : WordsAt w g xs) (i : Nat) (hi : i < xs.length) : w.cell? ⟨g, i, none⟩ = some (.int .u64 (xs.getD i 0 : Nat)) := (cell_of_heap h.row).trans (wordVals_get _ _ hi)

theorem words_one (xs : List Nat) : ∀ v ∈ wordVals xs, v.oneCell' = true := by
  intro v hv
  obtain ⟨x, _, rfl⟩ := List.mem_map.1 hv
  rfl

theorem src_cells {T : TypeId} {w w1 : World} {p b : Nat} {s : St} (h : StoreAt T w p b s) (hg : w.grownBy w1 none) : Hid (∀ j v, (wordVals s.words)[j]? = some v → w1.cell? ((⟨b, 0, none⟩ : Addr).add j) = some v) := by
  intro j v hj
  refine hg.cell ?_ (by simp)
  have e : (⟨b, 0, none⟩ : Addr).add j = ⟨b, j, none⟩ := by unfold Addr.add; split <;> simp_all
  rw [e, cell_of_heap h.row]
  simpa using hj

/-- A copy over a whole row. -/
theorem copy_words {w : World} {g b : Nat} {xs ys : List Nat} (hg : w.heap[g]? = some (.cells (wordVals ys).toArray 48 (0, 0))) (hl : ys.length = xs.length)
    (hsrc : ∀ j v, (wordVals xs)[j]? = some v → w.cell? ((⟨b, 0, none⟩ : Addr).add j) = some v) :
    Sem.run Try.prog (Builtin.copy_ #[67, 67] 3 #[.slice (some ⟨g, 0, none⟩) xs.length xs.length, .slice (some ⟨b, 0, none⟩) xs.length xs.length]) w = .ok (goInt xs.length) (w.setRow g (wordVals xs).toArray) := by
  rw [run_copy_row (P := Try.prog) w 67 67 3 48 g 0 xs.length xs.length ⟨b, 0, none⟩ xs.length xs.length _ 48 (wordVals xs) Try.underlying67 (by kernel_rfl) hg (by rw [wordVals_length]; exact (Nat.min_self _).symm) hsrc (by simp [wordVals_length, hl]) (words_one _)]
  rw [wordVals_length]
  congr 3
  simp [wordVals_length, hl]

set_option maxRecDepth 100000 in
theorem words_of (w : World) (p b : Nat) (s : St) (h : StoreAt 104 w p b s) :
    Calls Try.prog 46 #[.pointer (some ⟨p, 0, none⟩)] w fun e w' => ∃ g, e = .returned (.slice (some ⟨g, 0, none⟩) s.words.length s.words.length) ∧ WordsAt w' g s.words ∧ w.heap.size ≤ g ∧ Below w.heap.size w w' := by
  obtain ⟨i0, hi, hz0, hz1, hz2⟩ := info_parts infoU64
  have c0 : w.cell? ⟨p, 0, none⟩ = some (.slice (some ⟨b, 0, none⟩) s.words.length s.words.length) := cell_of_heap h.head
  have hl := h.len
  have hb := lt_of_heap h.row
  have H := hide h
  clear h
  go_enter Try.func46, Try.ntmps46
  go_wp2_with (at_make; refine wpList_make_full _ rfl _ _ 67 rfl w.heap.size 48 i0 (.int .u64 0) 1 Try.underlying67 hi hz0 hz1 .i64 .i64 _ _ s.words.length rfl rfl rfl rfl (by rw [hz2]; omega) (by unfold maxLen; omega) (Nat.le_refl _) ?_; intro w1 hown hgrow; rw [made_zero] at hown; have hrow := hide (owned_row hown); clear hown; have c0' := hgrow.cell c0 (by simp); have hsrc := src_cells H.out hgrow)
  rw [copy_words hrow.out (by simp) hsrc.out]
  have hr2 := hide (setRow_heap w1 w.heap.size _ (wordVals s.words).toArray _ _ hrow.out)
  have hb2 := hide (below_setRow ((Below.refl _ w).grown hgrow (Nat.le_refl _) (by simp)) (Nat.le_refl w.heap.size) (wordVals s.words).toArray)
  generalize w1.setRow w.heap.size (wordVals s.words).toArray = w2 at *
  go_wp2
  go_ret
  exact ⟨_, rfl, ⟨hr2.out⟩, Nat.le_refl _, hb2.out⟩

theorem words_nil (w : World) : Calls Try.prog 46 #[.pointer none] w fun e w' => e = .returned (.slice none 0 0) ∧ w' = w := by
  go_enter Try.func46, Try.ntmps46
  go_wp2
  go_ret
  exact ⟨rfl, rfl⟩

end Go.Proofs.Ytafamfjgehnddaa
