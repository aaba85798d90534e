/- The tree and the document's, side by side: the law's own call of both. -/
import Derived.Test.YtblodflboalbmaaDRef
import Derived.Test.YtblodflboalbmaaTreIp
namespace Go.Proofs.Ytblodflboalbmaa
open Go.RowKit

/-- A block that is as it was laid. -/
def RO (b : Nat) (o : Obj) : Res := fun w G => w.heap[b]? = some o ∧ ∀ x, G x ↔ x = b
theorem Loc.ro {b : Nat} {o : Obj} : Loc (RO b o) := ⟨fun ⟨a, e⟩ k hn => ⟨(k.block b (lt_of_heap a) (hn b ((e b).2 rfl))).trans a, e⟩, fun ⟨a, e⟩ hx => by rw [(e _).1 hx]; exact lt_of_heap a⟩
theorem Own.alloc {R : Res} {w0 w : World} (l : Loc R) (h : Own R w0 w) (o : Obj) : Own (Sep (RO w.heap.size o) R) w0 (w.alloc o) := by
  obtain ⟨G, h1, h2, h3⟩ := h
  have b : Below w.heap.size w (w.alloc o) := (Below.refl _ _).alloc (Nat.le_refl _) o
  refine ⟨fun x => x = w.heap.size ∨ G x, ⟨fun x => x = w.heap.size, G, ⟨heap_alloc_at w o, fun _ => Iff.rfl⟩, l.kept h1 (Below.only b (fun _ => False)) (fun _ _ h => h), fun x hx h => ?_, fun _ => Iff.rfl⟩, fun x hx => ?_, h3.trans (b.mono h3.size)⟩
  · have := l.lt h1 h; omega
  · rcases hx with rfl | hx
    · exact h3.size
    · exact h2 x hx
theorem Own.tail {R1 R2 : Res} {w0 w : World} (h : Own (Sep R1 R2) w0 w) : Own R2 w0 w := by
  obtain ⟨G, ⟨G1, G2, a, b, c, d⟩, h2, h3⟩ := h
  exact ⟨G2, b, fun x hx => h2 x ((d x).2 (.inr hx)), h3⟩
theorem Own.obj {b : Nat} {o : Obj} {R : Res} {w0 w : World} (h : Own (Sep (RO b o) R) w0 w) : w.heap[b]? = some o := by
  obtain ⟨G, ⟨G1, G2, a, _⟩, _⟩ := h
  exact a.1
theorem Own.newD {R : Res} {w0 w : World} (l : Loc R) (h : Own R w0 w) : Own (Sep (RD w.heap.size []) R) w0 (w.alloc (.cells #[.slice none 0 0] 28)) := by
  obtain ⟨G, ⟨G1, G2, a, b, c, d⟩, h2, h3⟩ := h.alloc l (.cells #[.slice none 0 0] 28)
  refine ⟨G, ⟨G1, G2, ⟨.slice none 0 0, ⟨cell_of_heap a.1, lt_of_heap a.1, frozen_of_heap a.1, ⟨rfl, .inl ⟨rfl, rfl⟩⟩, by simp [Value.ownBlock], List.Pairwise.nil⟩, fun x => ?_⟩, b, c, d⟩, h2, h3⟩
  rw [a.2 x]
  simp [Value.ownBlock]

def DoEnd (t r : Nat) (L : List (It Int)) (w0 : World) : Ending → World → Prop := fun e w' => e = .returned (.bool true) ∧ ∃ L' : List (It Int), L'.length ≤ L.length + 1 ∧ Own (Sep (RTI t L') (RD r L')) w0 w'
abbrev opBox (kind : Nat) (key : Int) (draw : Nat) : Obj := .cells #[.int .u8 (kind : Int), .int .i64 key, .int .u32 (draw : Int)] 31

set_option maxRecDepth 100000 in
set_option maxHeartbeats 4000000 in
theorem doDropNo {w0 w : World} {t r : Nat} {L : List (It Int)} (h : Own (Sep (RTI t L) (RD r L)) w0 w) (kind : Nat) (h4 : (kind : Int) % 8 = 4 ∨ (kind : Int) % 8 = 5) (key : Int) (draw : Nat) (v : Int) (hl : L.length ≤ 100000) (hg : getL key L = none) :
    Calls Try.prog 11 #[.pointer (some ⟨t, 0, none⟩), .pointer (some ⟨r, 0, none⟩), .agg #[.int .u8 (kind : Int), .int .i64 key, .int .u32 (draw : Int)], .int .i64 v] w (DoEnd t r L w0) := by
  have HA := hide (h.alloc (Loc.rt.sep Loc.rd) (opBox kind key draw)).rot
  have HB := hide (heap_alloc_at w (opBox kind key draw))
  clear h
  have HG := hide hg
  have HL := hide hl
  clear hg
  rcases h4 with hq | hq
  all_goals (
    go_enter Try.func11, Try.ntmps11
    go_wp2_with fail
    refine (dropNoPI (Loc.rd.sep Loc.ro) HA.out key HG.out).mono ?_
    rintro e w1 ⟨rfl, h1⟩
    have H1 := hide h1.rot
    have k1 : w1.cell? ⟨w.heap.size, 1, none⟩ = some (.int .i64 key) := cell_of_heap h1.rot.rot.obj
    clear h1 HA HB
    go_wp2_with fail
    refine (ddropNoP (Loc.ro.sep Loc.rt) H1.out key (by omega) HG.out).mono ?_
    rintro e w2 ⟨rfl, h2⟩
    have H2 := hide h2.rot.tail
    clear h2 H1 k1
    go_wp2
    go_ret
    exact ⟨rfl, L, by omega, H2.out⟩)

set_option maxRecDepth 100000 in
set_option maxHeartbeats 4000000 in
theorem doDropYes {w0 w : World} {t r : Nat} {L : List (It Int)} (h : Own (Sep (RTI t L) (RD r L)) w0 w) (kind : Nat) (h4 : (kind : Int) % 8 = 4 ∨ (kind : Int) % 8 = 5) (key : Int) (draw : Nat) (v : Int) (hl : L.length ≤ 100000) (k : Int) (d : Nat) (x : Int) (hg : getL key L = some (k, d, x)) :
    Calls Try.prog 11 #[.pointer (some ⟨t, 0, none⟩), .pointer (some ⟨r, 0, none⟩), .agg #[.int .u8 (kind : Int), .int .i64 key, .int .u32 (draw : Int)], .int .i64 v] w (DoEnd t r L w0) := by
  have HA := hide (h.alloc (Loc.rt.sep Loc.rd) (opBox kind key draw)).rot
  have HB := hide (heap_alloc_at w (opBox kind key draw))
  clear h
  have HG := hide hg
  have HL := hide hl
  clear hg
  rcases h4 with hq | hq
  all_goals (
    go_enter Try.func11, Try.ntmps11
    go_wp2_with fail
    refine (dropYesPI (Loc.rd.sep Loc.ro) HA.out key k d x HG.out (by omega)).mono ?_
    rintro e w1 ⟨rfl, h1⟩
    have H1 := hide h1.rot
    have k1 : w1.cell? ⟨w.heap.size, 1, none⟩ = some (.int .i64 key) := cell_of_heap h1.rot.rot.obj
    clear h1 HA HB
    go_wp2_with fail
    refine (ddropYesP (Loc.ro.sep Loc.rt) H1.out key k d x (by omega) HG.out).mono ?_
    rintro e w2 ⟨rfl, h2⟩
    have H2 := hide h2.rot.tail
    clear h2 H1 k1
    go_wp2
    go_ret
    exact ⟨rfl, delL key L, by have := delL_le (L := L) (key := key); omega, H2.out⟩)

set_option maxRecDepth 100000 in
set_option maxHeartbeats 4000000 in
theorem doGetNo {w0 w : World} {t r : Nat} {L : List (It Int)} (h : Own (Sep (RTI t L) (RD r L)) w0 w) (kind : Nat) (h4 : (kind : Int) % 8 = 6) (key : Int) (draw : Nat) (v : Int) (hl : L.length ≤ 100000) (hg : getL key L = none) :
    Calls Try.prog 11 #[.pointer (some ⟨t, 0, none⟩), .pointer (some ⟨r, 0, none⟩), .agg #[.int .u8 (kind : Int), .int .i64 key, .int .u32 (draw : Int)], .int .i64 v] w (DoEnd t r L w0) := by
  have HA := hide (h.alloc (Loc.rt.sep Loc.rd) (opBox kind key draw)).rot
  have HB := hide (heap_alloc_at w (opBox kind key draw))
  clear h
  have HG := hide hg
  have HL := hide hl
  clear hg
  rcases h4 with hq
  all_goals (
    go_enter Try.func11, Try.ntmps11
    go_wp2_with fail
    refine (getNoPI (Loc.rd.sep Loc.ro) HA.out key HG.out).mono ?_
    rintro e w1 ⟨rfl, h1⟩
    have H1 := hide h1.rot
    have k1 : w1.cell? ⟨w.heap.size, 1, none⟩ = some (.int .i64 key) := cell_of_heap h1.rot.rot.obj
    clear h1 HA HB
    go_wp2_with fail
    refine (rgetNoP (Loc.ro.sep Loc.rt) H1.out key (by omega) HG.out).mono ?_
    rintro e w2 ⟨rfl, h2⟩
    have H2 := hide h2.rot.tail
    clear h2 H1 k1
    go_wp2
    go_ret
    exact ⟨rfl, L, by omega, H2.out⟩)

set_option maxRecDepth 100000 in
set_option maxHeartbeats 4000000 in
theorem doGetYes {w0 w : World} {t r : Nat} {L : List (It Int)} (h : Own (Sep (RTI t L) (RD r L)) w0 w) (kind : Nat) (h4 : (kind : Int) % 8 = 6) (key : Int) (draw : Nat) (v : Int) (hl : L.length ≤ 100000) (k : Int) (d : Nat) (x : Int) (hg : getL key L = some (k, d, x)) :
    Calls Try.prog 11 #[.pointer (some ⟨t, 0, none⟩), .pointer (some ⟨r, 0, none⟩), .agg #[.int .u8 (kind : Int), .int .i64 key, .int .u32 (draw : Int)], .int .i64 v] w (DoEnd t r L w0) := by
  have HA := hide (h.alloc (Loc.rt.sep Loc.rd) (opBox kind key draw)).rot
  have HB := hide (heap_alloc_at w (opBox kind key draw))
  clear h
  have HG := hide hg
  have HL := hide hl
  clear hg
  rcases h4 with hq
  all_goals (
    go_enter Try.func11, Try.ntmps11
    go_wp2_with fail
    refine (getYesPI (Loc.rd.sep Loc.ro) HA.out key k d x HG.out).mono ?_
    rintro e w1 ⟨rfl, h1⟩
    have H1 := hide h1.rot
    have k1 : w1.cell? ⟨w.heap.size, 1, none⟩ = some (.int .i64 key) := cell_of_heap h1.rot.rot.obj
    clear h1 HA HB
    go_wp2_with fail
    refine (rgetYesP (Loc.ro.sep Loc.rt) H1.out key k d x (by omega) HG.out).mono ?_
    rintro e w2 ⟨rfl, h2⟩
    have H2 := hide h2.rot.tail
    clear h2 H1 k1
    go_wp2
    go_ret
    exact ⟨rfl, L, by omega, H2.out⟩)

set_option maxRecDepth 100000 in
set_option maxHeartbeats 4000000 in
theorem doCeilNo {w0 w : World} {t r : Nat} {L : List (It Int)} (h : Own (Sep (RTI t L) (RD r L)) w0 w) (kind : Nat) (h4 : (kind : Int) % 8 = 7) (key : Int) (draw : Nat) (v : Int) (hl : L.length ≤ 100000) (hg : ceilL key L = none) :
    Calls Try.prog 11 #[.pointer (some ⟨t, 0, none⟩), .pointer (some ⟨r, 0, none⟩), .agg #[.int .u8 (kind : Int), .int .i64 key, .int .u32 (draw : Int)], .int .i64 v] w (DoEnd t r L w0) := by
  have HA := hide (h.alloc (Loc.rt.sep Loc.rd) (opBox kind key draw)).rot
  have HB := hide (heap_alloc_at w (opBox kind key draw))
  clear h
  have HG := hide hg
  have HL := hide hl
  clear hg
  rcases h4 with hq
  all_goals (
    go_enter Try.func11, Try.ntmps11
    go_wp2_with fail
    refine (ceilNoPI (Loc.rd.sep Loc.ro) HA.out key HG.out).mono ?_
    rintro e w1 ⟨rfl, h1⟩
    have H1 := hide h1.rot
    have k1 : w1.cell? ⟨w.heap.size, 1, none⟩ = some (.int .i64 key) := cell_of_heap h1.rot.rot.obj
    clear h1 HA HB
    go_wp2_with fail
    refine (rceilNoP (Loc.ro.sep Loc.rt) H1.out key (by omega) HG.out).mono ?_
    rintro e w2 ⟨rfl, h2⟩
    have H2 := hide h2.rot.tail
    clear h2 H1 k1
    go_wp2
    go_ret
    exact ⟨rfl, L, by omega, H2.out⟩)

set_option maxRecDepth 100000 in
set_option maxHeartbeats 4000000 in
theorem doCeilYes {w0 w : World} {t r : Nat} {L : List (It Int)} (h : Own (Sep (RTI t L) (RD r L)) w0 w) (kind : Nat) (h4 : (kind : Int) % 8 = 7) (key : Int) (draw : Nat) (v : Int) (hl : L.length ≤ 100000) (k : Int) (d : Nat) (x : Int) (hg : ceilL key L = some (k, d, x)) :
    Calls Try.prog 11 #[.pointer (some ⟨t, 0, none⟩), .pointer (some ⟨r, 0, none⟩), .agg #[.int .u8 (kind : Int), .int .i64 key, .int .u32 (draw : Int)], .int .i64 v] w (DoEnd t r L w0) := by
  have HA := hide (h.alloc (Loc.rt.sep Loc.rd) (opBox kind key draw)).rot
  have HB := hide (heap_alloc_at w (opBox kind key draw))
  clear h
  have HG := hide hg
  have HL := hide hl
  clear hg
  rcases h4 with hq
  all_goals (
    go_enter Try.func11, Try.ntmps11
    go_wp2_with fail
    refine (ceilYesPI (Loc.rd.sep Loc.ro) HA.out key k d x HG.out).mono ?_
    rintro e w1 ⟨rfl, h1⟩
    have H1 := hide h1.rot
    have k1 : w1.cell? ⟨w.heap.size, 1, none⟩ = some (.int .i64 key) := cell_of_heap h1.rot.rot.obj
    clear h1 HA HB
    go_wp2_with fail
    refine (rceilYesP (Loc.ro.sep Loc.rt) H1.out key k d x (by omega) HG.out).mono ?_
    rintro e w2 ⟨rfl, h2⟩
    have H2 := hide h2.rot.tail
    clear h2 H1 k1
    go_wp2
    go_ret
    exact ⟨rfl, L, by omega, H2.out⟩)

/-- The call's own copy is there. -/
def OpAt (b : Nat) (kind : Nat) (key : Int) (draw : Nat) (w : World) : Prop := w.heap[b]? = some (opBox kind key draw)
set_option maxRecDepth 100000 in
set_option maxHeartbeats 4000000 in
theorem doPut {w0 w : World} {t r : Nat} {L : List (It Int)} (h : Own (Sep (RTI t L) (RD r L)) w0 w) (kind : Nat) (m : Int) (hq : (kind : Int) % 8 = m) (n4 : (m == 4) = false) (n5 : (m == 5) = false) (n6 : (m == 6) = false) (n7 : (m == 7) = false) (key : Int) (draw : Nat) (v : Int) (hl : L.length ≤ 100000) :
    Calls Try.prog 11 #[.pointer (some ⟨t, 0, none⟩), .pointer (some ⟨r, 0, none⟩), .agg #[.int .u8 (kind : Int), .int .i64 key, .int .u32 (draw : Int)], .int .i64 v] w (DoEnd t r L w0) := by
  have HA := hide (h.alloc (Loc.rt.sep Loc.rd) (opBox kind key draw)).rot
  have HBd : Hid (OpAt w.heap.size kind key draw (w.alloc (opBox kind key draw)).drew) := hide (heap_alloc_at w (opBox kind key draw))
  have d1 : ∀ u : Mem (OpAt w.heap.size kind key draw), u.w'.cell? ⟨w.heap.size, 1, none⟩ = some (.int .i64 key) := fun u => cell_of_heap u.h
  have d2 : ∀ u : Mem (OpAt w.heap.size kind key draw), u.w'.cell? ⟨w.heap.size, 2, none⟩ = some (.int .u32 (draw : Int)) := fun u => cell_of_heap u.h
  have hne : Nonempty (Mem (OpAt w.heap.size kind key draw)) := ⟨⟨_, HBd.out⟩⟩
  have HN := hide (show (putL key draw v L).length ≤ L.length + 1 by
    cases hg : getL key L with
    | none => rw [putL_no hg, insL_length]; exact Nat.le_refl _
    | some i => rw [putL_yes hg]; omega)
  clear h
  go_enter Try.func11, Try.ntmps11
  go_wp2
  refine region_start (J := OpAt w.heap.size kind key draw) (by kernel_rfl) ?_
  refine stretch (fuel := 4) (by kernel_rfl) (fun _ _ _ _ _ h => h) HBd.out [0, 1, 2, 3, 4, 5, 7, 8, 9, 10, 11, 12] (by kernel_rfl) ?_
  simp only [List.filterMap_cons, List.filterMap_nil, List.getElem?_toArray, List.getElem?_cons_zero, List.getElem?_cons_succ]
  show wpQuiet _ _ _ _ [_, _, _, _, _, _, _, _, _, _, _, _] _
  repeat (go_big_quiet_step (fail))
  refine wpQuiet_nil ?_
  refine wpAnyJ_writer (i := 6) rfl (by kernel_rfl) (fun K hK => ?_)
  go_simp
  refine (putPI (Loc.rd.sep Loc.ro) (HA.out.below (Loc.rt.sep (Loc.rd.sep Loc.ro)) ((Alike.drewN _ 1).below _)) key draw v (by omega)).mono ?_
  rintro e w1 ⟨rfl, h1⟩
  have H1 := hide h1.rot
  have hB1 : Hid (OpAt w.heap.size kind key draw w1) := hide h1.rot.rot.obj
  clear h1 HA
  refine hK _ _ hB1.out ?_
  clear hK K
  refine wpAnyJ_writer (i := 13) rfl (by kernel_rfl) (fun K hK => ?_)
  go_simp
  refine (dputP (Loc.ro.sep Loc.rt) H1.out key draw v (by omega)).mono ?_
  rintro e w2 ⟨rfl, h2⟩
  have hB2 : Hid (OpAt w.heap.size kind key draw w2) := hide h2.rot.obj
  have H2 := hide h2.rot.tail
  clear h2 H1
  refine hK _ _ hB2.out ?_
  clear hK K
  refine stretch (fuel := 0) (by kernel_rfl) (fun _ _ _ _ _ h => h) hB2.out [14, 15] (by kernel_rfl) ?_
  simp only [List.filterMap_cons, List.filterMap_nil, List.getElem?_toArray, List.getElem?_cons_zero, List.getElem?_cons_succ]
  show wpQuiet _ _ _ _ [_, _] _
  generalize (getL key L).isNone = B at *
  repeat (go_big_quiet_step (fail))
  refine wpQuiet_nil ?_
  refine wpAnyJ_done (by kernel_rfl) ?_
  go_wp2
  go_ret
  exact ⟨by first | rfl | simp, _, HN.out, H2.out⟩

theorem doT {w0 w : World} {t r : Nat} {L : List (It Int)} (h : Own (Sep (RTI t L) (RD r L)) w0 w) (kind : Nat) (key : Int) (draw : Nat) (v : Int) (hl : L.length ≤ 100000) :
    Calls Try.prog 11 #[.pointer (some ⟨t, 0, none⟩), .pointer (some ⟨r, 0, none⟩), .agg #[.int .u8 (kind : Int), .int .i64 key, .int .u32 (draw : Int)], .int .i64 v] w (DoEnd t r L w0) := by
  by_cases h4 : (kind : Int) % 8 = 4 ∨ (kind : Int) % 8 = 5
  · rcases hg : getL key L with _ | ⟨k, d, x⟩
    · exact doDropNo h kind h4 key draw v hl hg
    · exact doDropYes h kind h4 key draw v hl k d x hg
  · by_cases h6 : (kind : Int) % 8 = 6
    · rcases hg : getL key L with _ | ⟨k, d, x⟩
      · exact doGetNo h kind h6 key draw v hl hg
      · exact doGetYes h kind h6 key draw v hl k d x hg
    · by_cases h7 : (kind : Int) % 8 = 7
      · rcases hg : ceilL key L with _ | ⟨k, d, x⟩
        · exact doCeilNo h kind h7 key draw v hl hg
        · exact doCeilYes h kind h7 key draw v hl k d x hg
      · exact doPut h kind _ rfl (by rw [beq_eq_false_iff_ne]; omega) (by rw [beq_eq_false_iff_ne]; omega) (by rw [beq_eq_false_iff_ne]; omega) (by rw [beq_eq_false_iff_ne]; omega) key draw v hl
end Go.Proofs.Ytblodflboalbmaa
