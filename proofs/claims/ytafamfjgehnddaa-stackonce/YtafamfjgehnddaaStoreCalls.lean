/- The calls of a store, each at every store and every argument: of the program's store, and of the document's. -/
import Derived.Test.YtafamfjgehnddaaStore
namespace Go.Proofs.Ytafamfjgehnddaa
open Go.RowKit

def St.load (s : St) (i : Nat) : St := s.access 1 i (s.words.getD i 0)
def St.put (s : St) (i v : Nat) : St := s.access 2 i v
def St.cas (s : St) (i o n : Nat) : St := if s.words.getD i 0 = o then s.access 3 i n else s.access 4 i (s.words.getD i 0)
def St.casCode (s : St) (i o : Nat) : Int := if s.words.getD i 0 = o then 0 else 5
def St.add (s : St) (i v : Nat) : St := s.access 5 i ((s.words.getD i 0 + v) % 18446744073709551616)

theorem add_wrap (x v : Nat) : IntKind.u64.wrap ((x : Int) + (v : Int)) = (((x + v) % 18446744073709551616 : Nat) : Int) := by
  rw [IntKind.wrap_u64]; omega

theorem ne_u64 {a b : Nat} (h : a ≠ b) : ((a : Int) == (b : Int)) = false := by
  rw [beq_eq_false_iff_ne]; omega
theorem eq_u64 {a b : Nat} (h : a = b) : ((a : Int) == (b : Int)) = true := by
  rw [beq_iff_eq]; omega

theorem refuse_ok (w : World) (p b : Nat) (s : St) (h : StoreAt 104 w p b s) (i : Nat) (hi : i < s.words.length) :
    Calls Try.prog 66 #[.pointer (some ⟨p, 0, none⟩), .int .i64 (i : Int)] w fun e w' => e = .returned (.int .i64 0) ∧ w' = w := by
  have c0 : w.cell? ⟨p, 0, none⟩ = some (.slice (some ⟨b, 0, none⟩) s.words.length s.words.length) := cell_of_heap h.head
  have hl := h.len
  clear h
  go_enter Try.func66, Try.ntmps66
  go_wp2
  go_ret
  exact ⟨rfl, rfl⟩

theorem refuse_arg (w : World) (p b : Nat) (s : St) (h : StoreAt 104 w p b s) (t : Int) (ht : t < 0 ∨ (s.words.length : Int) ≤ t) :
    Calls Try.prog 66 #[.pointer (some ⟨p, 0, none⟩), .int .i64 t] w fun e w' => e = .returned (.int .i64 1) ∧ w' = w := by
  have c0 : w.cell? ⟨p, 0, none⟩ = some (.slice (some ⟨b, 0, none⟩) s.words.length s.words.length) := cell_of_heap h.head
  have hl := h.len
  clear h
  by_cases h0 : t < 0
  · clear ht
    go_enter Try.func66, Try.ntmps66
    go_wp2
    go_ret
    exact ⟨rfl, rfl⟩
  · have h1 : (s.words.length : Int) ≤ t := by omega
    clear ht
    go_enter Try.func66, Try.ntmps66
    go_wp2
    go_ret
    exact ⟨rfl, rfl⟩

theorem refuse_nil (w : World) (t : Int) :
    Calls Try.prog 66 #[.pointer none, .int .i64 t] w fun e w' => e = .returned (.int .i64 2) ∧ w' = w := by
  go_enter Try.func66, Try.ntmps66
  go_wp2
  go_ret
  exact ⟨rfl, rfl⟩

theorem s_load (w : World) (p b : Nat) (s : St) (h : StoreAt 104 w p b s) (i : Nat) (hi : i < s.words.length) :
    Calls Try.prog 42 #[.pointer (some ⟨p, 0, none⟩), .int .i64 (i : Int)] w fun e w' => e = .returned (.tuple #[.int .u64 (s.words.getD i 0 : Nat), .int .i64 0]) ∧ StoreAt 104 w' p b (s.load i) ∧ Only (fun k => k = p ∨ k = b) w w' := by
  have c0 : w.cell? ⟨p, 0, none⟩ = some (.slice (some ⟨b, 0, none⟩) s.words.length s.words.length) := cell_of_heap h.head
  have hl := h.len
  have c2 : w.cell? ⟨b, i, none⟩ = some (.int .u64 (s.words.getD i 0 : Nat)) := (cell_of_heap h.row).trans (wordVals_get _ _ hi)
  have hx := getD_lt _ h.bd i
  unfold St.load
  have HC := hide (refuse_ok w p b s h i hi)
  have HA := hide (access w p b s h 1 i hi (s.words.getD i 0) hx)
  clear h
  generalize s.words.getD i 0 = x at *
  go_enter Try.func42, Try.ntmps42
  go_wp2_with fail
  refine HC.out.mono ?_
  rintro e w' ⟨rfl, rfl⟩
  go_wp2_with fail
  refine HA.out.mono ?_
  rintro e w' ⟨rfl, h1, h2⟩
  go_wp2
  go_ret2
  exact ⟨rfl, h1, h2⟩

theorem s_put (w : World) (p b : Nat) (s : St) (h : StoreAt 104 w p b s) (i : Nat) (hi : i < s.words.length) (v : Nat) (hv : v < 18446744073709551616) :
    Calls Try.prog 38 #[.pointer (some ⟨p, 0, none⟩), .int .i64 (i : Int), .int .u64 (v : Int)] w fun e w' => e = .returned (.int .i64 0) ∧ StoreAt 104 w' p b (s.put i v) ∧ Only (fun k => k = p ∨ k = b) w w' := by
  have c0 : w.cell? ⟨p, 0, none⟩ = some (.slice (some ⟨b, 0, none⟩) s.words.length s.words.length) := cell_of_heap h.head
  have hl := h.len
  have c2 : w.cell? ⟨b, i, none⟩ = some (.int .u64 (s.words.getD i 0 : Nat)) := (cell_of_heap h.row).trans (wordVals_get _ _ hi)
  have hx := getD_lt _ h.bd i
  unfold St.put
  have HC := hide (refuse_ok w p b s h i hi)
  have HA := hide (access w p b s h 2 i hi v hv)
  clear h
  generalize s.words.getD i 0 = x at *
  go_enter Try.func38, Try.ntmps38
  go_wp2_with fail
  refine HC.out.mono ?_
  rintro e w' ⟨rfl, rfl⟩
  go_wp2_with fail
  refine HA.out.mono ?_
  rintro e w' ⟨rfl, h1, h2⟩
  go_wp2
  go_ret
  exact ⟨rfl, h1, h2⟩

theorem s_cas_win (w : World) (p b : Nat) (s : St) (h : StoreAt 104 w p b s) (i : Nat) (hi : i < s.words.length) (o n : Nat) (hn : n < 18446744073709551616) (ho : s.words.getD i 0 = o) :
    Calls Try.prog 69 #[.pointer (some ⟨p, 0, none⟩), .int .i64 (i : Int), .int .u64 (o : Int), .int .u64 (n : Int)] w fun e w' => e = .returned (.tuple #[.int .u64 (s.words.getD i 0 : Nat), .int .i64 0]) ∧ StoreAt 104 w' p b (s.access 3 i n) ∧ Only (fun k => k = p ∨ k = b) w w' := by
  have c0 : w.cell? ⟨p, 0, none⟩ = some (.slice (some ⟨b, 0, none⟩) s.words.length s.words.length) := cell_of_heap h.head
  have hl := h.len
  have c2 : w.cell? ⟨b, i, none⟩ = some (.int .u64 (s.words.getD i 0 : Nat)) := (cell_of_heap h.row).trans (wordVals_get _ _ hi)
  have hx := getD_lt _ h.bd i
  have q := eq_u64 ho
  clear ho
  have HC := hide (refuse_ok w p b s h i hi)
  have HA := hide (access w p b s h 3 i hi n hn)
  clear h
  generalize s.words.getD i 0 = x at *
  go_enter Try.func69, Try.ntmps69
  go_wp2_with fail
  refine HC.out.mono ?_
  rintro e w' ⟨rfl, rfl⟩
  go_wp2_with fail
  refine HA.out.mono ?_
  rintro e w' ⟨rfl, h1, h2⟩
  go_wp2
  go_ret2
  exact ⟨rfl, h1, h2⟩

theorem s_cas_lost (w : World) (p b : Nat) (s : St) (h : StoreAt 104 w p b s) (i : Nat) (hi : i < s.words.length) (o n : Nat) (ho : s.words.getD i 0 ≠ o) :
    Calls Try.prog 69 #[.pointer (some ⟨p, 0, none⟩), .int .i64 (i : Int), .int .u64 (o : Int), .int .u64 (n : Int)] w fun e w' => e = .returned (.tuple #[.int .u64 (s.words.getD i 0 : Nat), .int .i64 5]) ∧ StoreAt 104 w' p b (s.access 4 i (s.words.getD i 0)) ∧ Only (fun k => k = p ∨ k = b) w w' := by
  have c0 : w.cell? ⟨p, 0, none⟩ = some (.slice (some ⟨b, 0, none⟩) s.words.length s.words.length) := cell_of_heap h.head
  have hl := h.len
  have c2 : w.cell? ⟨b, i, none⟩ = some (.int .u64 (s.words.getD i 0 : Nat)) := (cell_of_heap h.row).trans (wordVals_get _ _ hi)
  have hx := getD_lt _ h.bd i
  have q := ne_u64 ho
  clear ho
  have HC := hide (refuse_ok w p b s h i hi)
  have HA := hide (access w p b s h 4 i hi (s.words.getD i 0) hx)
  clear h
  generalize s.words.getD i 0 = x at *
  go_enter Try.func69, Try.ntmps69
  go_wp2_with fail
  refine HC.out.mono ?_
  rintro e w' ⟨rfl, rfl⟩
  go_wp2_with fail
  refine HA.out.mono ?_
  rintro e w' ⟨rfl, h1, h2⟩
  go_wp2
  go_ret2
  exact ⟨rfl, h1, h2⟩

theorem s_cas (w : World) (p b : Nat) (s : St) (h : StoreAt 104 w p b s) (i : Nat) (hi : i < s.words.length) (o n : Nat) (hn : n < 18446744073709551616) :
    Calls Try.prog 69 #[.pointer (some ⟨p, 0, none⟩), .int .i64 (i : Int), .int .u64 (o : Int), .int .u64 (n : Int)] w fun e w' => e = .returned (.tuple #[.int .u64 (s.words.getD i 0 : Nat), .int .i64 (s.casCode i o)]) ∧ StoreAt 104 w' p b (s.cas i o n) ∧ Only (fun k => k = p ∨ k = b) w w' := by
  unfold St.cas St.casCode
  by_cases ho : s.words.getD i 0 = o
  · rw [if_pos ho, if_pos ho]
    exact s_cas_win w p b s h i hi o n hn ho
  · rw [if_neg ho, if_neg ho]
    exact s_cas_lost w p b s h i hi o n ho

theorem s_load_out (w : World) (p b : Nat) (s : St) (h : StoreAt 104 w p b s) (t : Int) (ht : t < 0 ∨ (s.words.length : Int) ≤ t) :
    Calls Try.prog 42 #[.pointer (some ⟨p, 0, none⟩), .int .i64 t] w fun e w' => e = .returned (.tuple #[.int .u64 0, .int .i64 1]) ∧ w' = w := by
  have HC := hide (refuse_arg w p b s h t ht)
  clear h ht
  go_enter Try.func42, Try.ntmps42
  go_wp2_with fail
  refine HC.out.mono ?_
  rintro e w' ⟨rfl, rfl⟩
  go_wp2
  go_ret2
  exact ⟨rfl, rfl⟩

theorem s_put_out (w : World) (p b : Nat) (s : St) (h : StoreAt 104 w p b s) (t : Int) (ht : t < 0 ∨ (s.words.length : Int) ≤ t) (v : Int) :
    Calls Try.prog 38 #[.pointer (some ⟨p, 0, none⟩), .int .i64 t, .int .u64 v] w fun e w' => e = .returned (.int .i64 1) ∧ w' = w := by
  have HC := hide (refuse_arg w p b s h t ht)
  clear h ht
  go_enter Try.func38, Try.ntmps38
  go_wp2_with fail
  refine HC.out.mono ?_
  rintro e w' ⟨rfl, rfl⟩
  go_wp2
  go_ret
  exact ⟨rfl, rfl⟩

theorem s_cas_out (w : World) (p b : Nat) (s : St) (h : StoreAt 104 w p b s) (t : Int) (ht : t < 0 ∨ (s.words.length : Int) ≤ t) (o n : Int) :
    Calls Try.prog 69 #[.pointer (some ⟨p, 0, none⟩), .int .i64 t, .int .u64 o, .int .u64 n] w fun e w' => e = .returned (.tuple #[.int .u64 0, .int .i64 1]) ∧ w' = w := by
  have HC := hide (refuse_arg w p b s h t ht)
  clear h ht
  go_enter Try.func69, Try.ntmps69
  go_wp2_with fail
  refine HC.out.mono ?_
  rintro e w' ⟨rfl, rfl⟩
  go_wp2
  go_ret2
  exact ⟨rfl, rfl⟩

theorem s_load_nil (w : World) (t : Int) :
    Calls Try.prog 42 #[.pointer none, .int .i64 t] w fun e w' => e = .returned (.tuple #[.int .u64 0, .int .i64 2]) ∧ w' = w := by
  have HC := hide (refuse_nil w t)
  go_enter Try.func42, Try.ntmps42
  go_wp2_with fail
  refine HC.out.mono ?_
  rintro e w' ⟨rfl, rfl⟩
  go_wp2
  go_ret2
  exact ⟨rfl, rfl⟩

theorem s_put_nil (w : World) (t : Int) (v : Int) :
    Calls Try.prog 38 #[.pointer none, .int .i64 t, .int .u64 v] w fun e w' => e = .returned (.int .i64 2) ∧ w' = w := by
  have HC := hide (refuse_nil w t)
  go_enter Try.func38, Try.ntmps38
  go_wp2_with fail
  refine HC.out.mono ?_
  rintro e w' ⟨rfl, rfl⟩
  go_wp2
  go_ret
  exact ⟨rfl, rfl⟩

theorem s_cas_nil (w : World) (t : Int) (o n : Int) :
    Calls Try.prog 69 #[.pointer none, .int .i64 t, .int .u64 o, .int .u64 n] w fun e w' => e = .returned (.tuple #[.int .u64 0, .int .i64 2]) ∧ w' = w := by
  have HC := hide (refuse_nil w t)
  go_enter Try.func69, Try.ntmps69
  go_wp2_with fail
  refine HC.out.mono ?_
  rintro e w' ⟨rfl, rfl⟩
  go_wp2
  go_ret2
  exact ⟨rfl, rfl⟩

end Go.Proofs.Ytafamfjgehnddaa
