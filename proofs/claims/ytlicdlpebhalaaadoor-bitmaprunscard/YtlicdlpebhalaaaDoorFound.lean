/- Next, Runs and Parts: what the program's answer, at every list and every number. -/
import Derived.Test.YtlicdlpebhalaaaDoorCounted
import Derived.Test.YtlicdlpebhalaaaDoorPairs
namespace Go.Proofs.YtlicdlpebhalaaaDoor
open Go.RowKit Go.Shelf

attribute [local go_sem] Oper.semAt_some

theorem next12 (l : List Nat) (hl : l.length ≤ 1099511627776) (hf : Bitm.Fit l) (a : Option Addr) (c : Nat) (n lo : Int) (w : World) (hT : Tab w) (h : WordsIn w a l) :
    Calls Tryd.prog 12 #[.slice a l.length c, .int .i64 n, .int .i64 lo] w fun x w' => ∃ r ok, x = .returned (.tuple #[.int .i64 ((r : Nat) : Int), .bool ok]) ∧ Bitm.NextIs l false lo.toNat (heldN n l.length) r ok ∧ Below w.heap.size w w' := by
  have HH := fun w => hide (bheld31 a l.length c (by omega) n w)
  have HN := hide (next30 l hl hf a c (heldN n l.length) lo.toNat (heldN_le _ _) false w hT h)
  generalize heldN n l.length = e at *
  obtain ⟨z, hz⟩ : ∃ z, lo.toNat = z := ⟨_, rfl⟩
  rw [hz] at HN ⊢
  obtain ⟨k, hk⟩ : ∃ k, l.length = k := ⟨_, rfl⟩
  rw [hk] at HN HH hl ⊢
  clear hf hT h hk
  by_cases h0 : lo < 0
  · obtain rfl : z = 0 := by omega
    go_enter Tryd.func12, Tryd.ntmps12
    go_wp2_with (first | (go_at_call 31; refine (HH _).out.mono ?_; rintro e w' ⟨rfl, rfl⟩) | (go_at_call 30; refine HN.out.mono ?_; rintro e w1 ⟨r, ok, rfl, hnx, hb⟩))
    go_ret2
    exact ⟨r, ok, rfl, hnx, hb⟩
  · obtain rfl : lo = (z : Int) := by omega
    go_enter Tryd.func12, Tryd.ntmps12
    go_wp2_with (first | (go_at_call 31; refine (HH _).out.mono ?_; rintro e w' ⟨rfl, rfl⟩) | (go_at_call 30; refine HN.out.mono ?_; rintro e w1 ⟨r, ok, rfl, hnx, hb⟩))
    go_ret2
    exact ⟨r, ok, rfl, hnx, hb⟩

/-- The parts of a stretch; none where it is not one that is asked for. -/
def partsL (p q : Int) : List (Nat × Nat) := if 0 ≤ p ∧ p ≤ 1048576 ∧ 1 ≤ q ∧ q ≤ 1048576 then Bitm.partsAll p.toNat q.toNat else []

theorem parts23 (p q : Int) (w : World) :
    Calls Tryd.prog 23 #[.int .i64 p, .int .i64 q] w fun x w' => ∃ v, x = .returned v ∧ PairsV .u64 w' v (partsL p q) ∧ Below w.heap.size w w' := by
  by_cases hok : 0 ≤ p ∧ p ≤ 1048576 ∧ 1 ≤ q ∧ q ≤ 1048576
  · rw [partsL, if_pos hok]
    obtain ⟨a, rfl⟩ : ∃ k : Nat, p = (k : Int) := ⟨p.toNat, by omega⟩
    obtain ⟨b, rfl⟩ : ∃ k : Nat, q = (k : Int) := ⟨q.toNat, by omega⟩
    obtain ⟨_, k1, k2, k3⟩ := hok
    refine (callsIn_wide (n := 6)).1 ?_
    have hb2 := Boxed.new w 3 (.int .i64 (a : Int))
    have hb3 := Boxed.new (w.alloc (.cells #[.int .i64 (a : Int)] 3)) 3 (.int .i64 ((a : Int) + (b : Int)))
    rw [World.size_alloc] at hb3
    have hlen := Bitm.parts_len a b
    have hseq := partsStops 3 (by omega) w.heap.size (w.heap.size + 1) a (a + b) 32768 (by omega) (by omega) (Below ((w.alloc (.cells #[.int .i64 (a : Int)] 3)).alloc (.cells #[.int .i64 ((a : Int) + (b : Int))] 3)).heap.size) (fun A B h => h.cell (p := ⟨w.heap.size + 1, 0, none⟩) (by simp))
      ((w.alloc (.cells #[.int .i64 (a : Int)] 3)).alloc (.cells #[.int .i64 ((a : Int) + (b : Int))] 3)) (by simp; omega) (by simp) (hb2.alloc _).cell (by simp)
    rw [show a + b - a = b from by omega] at hseq
    have HC := hide (collectPartIn 5 (by omega) (fun x : Part 32768 => x.1) 40 _ (enters_of Tryd.func40 (by kernel_rfl) rfl) (by omega) _ hseq)
    clear hseq
    refine callsIn_of_wp Tryd.func23 rfl trivial ?_ rfl
    simp only [Tryd.ntmps23, List.size_toArray, List.length_cons, List.length_nil, Nat.reduceAdd, Nat.reduceSub, Array.replicate_succ, Array.replicate_zero, List.push_toArray, List.append_toArray, List.nil_append, List.cons_append]
    gi_wp2_with (first | (refine ⟨trivial, ?_⟩; gi_at_call 29; refine (partsIn 5 _ _ _).mono ?_; rintro e w2 ⟨rfl, rfl⟩) | (refine ⟨trivial, ?_⟩; gi_at_call 38; refine HC.out.mono ?_; rintro e w3 ⟨ys, v, hS, rfl, hrow, hbel⟩; have HS := hide hS; clear hS))
    go_ret
    have hS := HS.out
    rw [hS] at hrow
    rw [show ys.length = (Bitm.partsAll a b).length from by rw [← hS, List.length_map]] at hrow
    exact ⟨v, rfl, pairs_of_owns hrow, (((Below.refl _ w).alloc (Nat.le_refl _) _).alloc (by simp) _).trans (hbel.mono (by simp; omega))⟩
  · rw [partsL, if_neg hok]
    have hN : Hid (∀ w' : World, PairsV .u64 w' (.slice none 0 0) []) := fun w' => PairsV.nil _ _
    by_cases h0 : 0 ≤ p
    · by_cases h1 : p ≤ 1048576
      · by_cases h2 : 1 ≤ q
        · have h3 : ¬ q ≤ 1048576 := fun h => hok ⟨h0, h1, h2, h⟩
          clear hok
          go_enter Tryd.func23, Tryd.ntmps23
          go_wp2
          go_ret
          exact ⟨_, rfl, hN.out _, Below.refl _ _⟩
        · clear hok
          go_enter Tryd.func23, Tryd.ntmps23
          go_wp2
          go_ret
          exact ⟨_, rfl, hN.out _, Below.refl _ _⟩
      · clear hok
        go_enter Tryd.func23, Tryd.ntmps23
        go_wp2
        go_ret
        exact ⟨_, rfl, hN.out _, Below.refl _ _⟩
    · clear hok
      go_enter Tryd.func23, Tryd.ntmps23
      go_wp2
      go_ret
      exact ⟨_, rfl, hN.out _, Below.refl _ _⟩

theorem runsIn (n : Nat) (v : Value) (hv : ∃ a k c, v = .slice a k c) (e : Int) (w : World) :
    CallsIn Fence.wide n Tryd.prog 37 #[v, .int .i64 e] w fun r w' => r = .returned (.func (.func 46) #[] #[.pointer (some ⟨w.heap.size, 0, none⟩), .pointer (some ⟨w.heap.size + 1, 0, none⟩)]) ∧
      w' = (w.alloc (.cells #[v] 22)).alloc (.cells #[.int .i64 e] 3) := by
  obtain ⟨a, k, c, rfl⟩ := hv
  refine callsIn_of_wp Tryd.func37 rfl trivial ?_ rfl
  simp only [Tryd.ntmps37, List.size_toArray, List.length_cons, List.length_nil, Nat.reduceAdd, Nat.reduceSub, Array.replicate_succ, Array.replicate_zero, List.push_toArray, List.append_toArray, List.nil_append, List.cons_append]
  gi_wp2
  go_ret
  exact ⟨rfl, rfl⟩

theorem NextIs.lt {l : List Nat} {on : Bool} {lo hi r : Nat} {ok : Bool} (h : Bitm.NextIs l on lo hi r ok) : r ≤ hi := by
  cases ok with
  | true => have := (h.found rfl).2.1; omega
  | false => rw [(h.none_ rfl).1]; omega

/-- What is left of the runs' loop. -/
def runsM (e : Nat) (r4 r5 : Value) : Nat := match r5 with | .bool true => e + 1 - (intOf r4).toNat | _ => 0

set_option maxRecDepth 100000 in
set_option maxHeartbeats 2000000 in
theorem runs46 (n : Nat) (hn : 4 ≤ n) (Y Bl Bn n₀ : Nat) (l : List Nat) (hl : l.length ≤ 1099511627776) (hf : Bitm.Fit l) (a : Option Addr) (c e : Nat) (he : e ≤ 64 * l.length) (w : World) (hT : Tab w) (hW : WordsIn w a l) (hn₀ : n₀ = w.heap.size) (hBl : Bl < n₀) (hBn : Bn < n₀)
    (hcl : w.cell? ⟨Bl, 0, none⟩ = some (.slice a l.length c)) (hcn : w.cell? ⟨Bn, 0, none⟩ = some (.int .i64 (e : Int)))
    (J Jx : List (Nat × Nat) → World → Prop) (W : World) (hBW : Below n₀ w W) (hJ : AbidesFrom W.heap.size J)
    (hY : ∀ pre (p : Nat × Nat) W, J pre W → pre.length < e + 1 → YieldAt Fence.wide (n - 1) Tryd.prog Y #[.agg #[.int .i64 (p.1 : Int), .int .i64 (p.2 : Int)]] W fun r W' =>
      (r = .returned (.bool true) ∧ J (pre ++ [p]) W' ∧ Below n₀ W W') ∨ (r = .returned (.bool false) ∧ Jx (pre ++ [p]) W'))
    (h0 : J [] W) :
    CallsIn Fence.wide n Tryd.prog 46 #[.func (.yield Y) #[] #[], .pointer (some ⟨Bl, 0, none⟩), .pointer (some ⟨Bn, 0, none⟩)] W fun r W' => (∃ v, r = .returned v) ∧
      ((∃ ys, ys = Bitm.runsTo l e ∧ J ys W') ∨ (∃ pre : List (Nat × Nat), True ∧ Jx pre W')) := by
  have h1 : 1 ≤ n := by omega
  have hpos := hT.lt
  have HN := fun (lo : Nat) (on : Bool) (x : World) (hx : Below n₀ w x) => hide ((callsIn_wide (n := n - 1)).2 (next30 l hl hf a c e lo he on x (hT.below (by omega) hx) (hW.below hx (by omega))))
  have HC := fun (x : World) (hx : Below n₀ w x) => (hx.cell (p := ⟨Bl, 0, none⟩) hBl).trans hcl
  have HD := fun (x : World) (hx : Below n₀ w x) => (hx.cell (p := ⟨Bn, 0, none⟩) hBn).trans hcn
  have HG : Hid (∀ (pre : List (Nat × Nat)) (A B : World), J pre A → Below A.heap.size A B → J pre B) := fun pre A B hj hb => hJ pre A B none hj ⟨hb.os, hb.tape, hb.output, hb.size, fun k hk _ => hb.block k hk⟩ (fun r e => by cases e)
  have HR := hide (Bitm.runs_len l)
  obtain ⟨k, hk⟩ : ∃ k, l.length = k := ⟨_, rfl⟩
  rw [hk] at hl he HN HC
  have q0 := HC W hBW
  have q1 := HD W hBW
  have HBW := hide hBW
  clear hk hT hW hcl hcn hJ hBW
  refine callsIn_of_wp Tryd.func46 rfl trivial ?_ rfl
  simp only [Tryd.ntmps46, List.size_toArray, List.length_cons, List.length_nil, Nat.reduceAdd, Nat.reduceSub, Array.replicate_succ, Array.replicate_zero, List.push_toArray, List.append_toArray, List.nil_append, List.cons_append]
  gi_wp2_with (refine ⟨trivial, ?_⟩; gi_at_call 30; refine (HN 0 false _ HBW.out).out.mono ?_; rintro x w1 ⟨r, ok, rfl, hnx, hb1⟩; have HX := hide hnx; clear hnx)
  have HB1 : Hid (Below n₀ w w1) := HBW.out.trans (hb1.mono (by have := HBW.out.size; omega))
  have HJ1 : Hid (J [] w1) := HG.out _ _ _ h0 hb1
  gi_loopw [4, 5] (fun r4 r5 wr => ∃ (pre : List (Nat × Nat)) (lo i : Nat) (ok : Bool), r4 = .int .i64 (i : Int) ∧ r5 = .bool ok ∧ Hid (Bitm.NextIs l false lo e i ok ∧ pre = Bitm.runsTo l lo ∧ (lo = 0 ∨ (Bitm.bit l lo = true ∨ lo = e)) ∧ lo ≤ e) ∧ Hid (Below n₀ w wr) ∧ J pre wr)
    (fun r4 r5 _ => runsM e r4 r5)
  case atStart => exact ⟨[], 0, r, ok, rfl, rfl, ⟨HX.out, rfl, .inl rfl, by omega⟩, HB1.out, HJ1.out⟩
  case round =>
    obtain ⟨pre, lo, i, ok, rfl, rfl, hH, hBr, hJs⟩ := hrel
    obtain ⟨hNX0, hpr, hlo, hle⟩ := hH.out
    have HPR := hide hpr
    clear hpr hH
    cases ok with
    | false =>
      have HEND := hide (Bitm.runs_end l e lo hle i hNX0)
      clear hNX0 hlo
      gi_wp2
      go_end0
      exact ⟨⟨_, rfl⟩, .inl ⟨pre, by rw [HPR.out, HEND.out], hJs⟩⟩
    | true =>
      have hNX := hide hNX0
      obtain ⟨g1, g2, _, _⟩ := hNX0.found rfl
      have HLO : lo = 0 ∨ Bitm.bit l lo = true := by rcases hlo with h | h | h; exact .inl h; exact .inr h; omega
      clear hNX0 hlo
      have hlen : pre.length < e + 1 := by rw [HPR.out]; have := HR.out lo; omega
      have q2 := HC wr hBr.out
      have q3 := HD wr hBr.out
      gi_wp2
      refine ⟨trivial, (HN i true wr hBr.out).out.mono ?_⟩
      rintro x w2 ⟨r, stops, rfl, hn2, hb2⟩
      have HB2 : Hid (Below n₀ w w2) := hBr.out.trans (hb2.mono (by have := hBr.out.size; omega))
      have hJ2 : Hid (J pre w2) := HG.out _ _ _ hJs hb2
      have q6 := HC w2 HB2.out
      have q7 := HD w2 HB2.out
      cases stops with
      | true =>
        obtain ⟨hr1, hr2, hr3, hr4⟩ := Bitm.runs_step l e lo i r true HLO hNX.out hn2
        simp only [if_true] at hr1 hr2 hr3 hr4
        have HR1 := hide hr1
        have HR4 := hide hr4
        have hYY := hY pre (i, r - i) w2 hJ2.out hlen
        simp only at hYY
        have hsub : ((r - i : Nat) : Int) = (r : Int) - (i : Int) := by omega
        rw [hsub] at hYY
        clear hr1 hr4 hn2 hsub
        obtain ⟨fn, tmps, assign, body, hy1, hR⟩ := hYY
        gi_wp2
        refine hR.mono ?_
        rintro x W3 (⟨rfl, hJ3, hk3⟩ | ⟨rfl, hJx3⟩)
        · have HB3 : Hid (Below n₀ w W3) := HB2.out.trans hk3
          have q4 := HC W3 HB3.out
          have q5 := HD W3 HB3.out
          have HJ3 := hide hJ3
          clear hJ3 hR hy1
          gi_wp2
          refine ⟨trivial, (HN r false W3 HB3.out).out.mono ?_⟩
          rintro x w4 ⟨r4, ok4, rfl, hn4, hb4⟩
          have HB4 : Hid (Below n₀ w w4) := HB3.out.trans (hb4.mono (by have := HB3.out.size; omega))
          have HN4 := hide hn4
          have hlt4 : ok4 = true → i < r4 := fun ho => by have := (hn4.found ho).1; omega
          clear hn4
          gi_wp2
          go_roundw
          case rel => exact ⟨pre ++ [(i, r - i)], r, r4, ok4, rfl, rfl, ⟨HN4.out, by rw [HPR.out, HR1.out], .inr HR4.out, by omega⟩, HB4.out, HG.out _ _ _ HJ3.out hb4⟩
          case measure =>
            cases ok4 with
            | true => have := hlt4 rfl; simp [intOf, runsM]; omega
            | false => simp [intOf, runsM]; omega
        · gi_wp2
          refine bodyPost_ret (results_none rfl _ _ _) rfl ?_
          exact ⟨⟨_, rfl⟩, .inr ⟨_, trivial, hJx3⟩⟩
      | false =>
        obtain ⟨hr1, hr2, hr3, hr4⟩ := Bitm.runs_step l e lo i r false HLO hNX.out hn2
        simp only [Bool.false_eq_true, if_false] at hr1 hr2 hr3 hr4
        have HR1 := hide hr1
        have hYY := hY pre (i, e - i) w2 hJ2.out hlen
        simp only at hYY
        have hsub : ((e - i : Nat) : Int) = (e : Int) - (i : Int) := by omega
        rw [hsub] at hYY
        clear hr1 hr4 hn2 hsub
        obtain ⟨fn, tmps, assign, body, hy1, hR⟩ := hYY
        gi_wp2
        refine hR.mono ?_
        rintro x W3 (⟨rfl, hJ3, hk3⟩ | ⟨rfl, hJx3⟩)
        · have HB3 : Hid (Below n₀ w W3) := HB2.out.trans hk3
          have q4 := HC W3 HB3.out
          have q5 := HD W3 HB3.out
          have HJ3 := hide hJ3
          clear hJ3 hR hy1
          gi_wp2
          refine ⟨trivial, (HN e false W3 HB3.out).out.mono ?_⟩
          rintro x w4 ⟨r4, ok4, rfl, hn4, hb4⟩
          have HB4 : Hid (Below n₀ w w4) := HB3.out.trans (hb4.mono (by have := HB3.out.size; omega))
          have HN4 := hide hn4
          have hlt4 : ok4 = true → i < r4 := fun ho => by have := (hn4.found ho).1; omega
          clear hn4
          gi_wp2
          go_roundw
          case rel => exact ⟨pre ++ [(i, e - i)], e, r4, ok4, rfl, rfl, ⟨HN4.out, by rw [HPR.out, HR1.out], .inr (.inr rfl), by omega⟩, HB4.out, HG.out _ _ _ HJ3.out hb4⟩
          case measure =>
            cases ok4 with
            | true => have := hlt4 rfl; simp [intOf, runsM]; omega
            | false => simp [intOf, runsM]; omega
        · gi_wp2
          refine bodyPost_ret (results_none rfl _ _ _) rfl ?_
          exact ⟨⟨_, rfl⟩, .inr ⟨_, trivial, hJx3⟩⟩

theorem runsStops (n : Nat) (hn : 4 ≤ n) (Bl Bn : Nat) (l : List Nat) (hl : l.length ≤ 1099511627776) (hf : Bitm.Fit l) (a : Option Addr) (c e : Nat) (he : e ≤ 64 * l.length) (w : World) (hT : Tab w) (hW : WordsIn w a l) (hBl : Bl < w.heap.size) (hBn : Bn < w.heap.size)
    (hcl : w.cell? ⟨Bl, 0, none⟩ = some (.slice a l.length c)) (hcn : w.cell? ⟨Bn, 0, none⟩ = some (.int .i64 (e : Int))) :
    SeqStopsK Fence.wide n Tryd.prog 46 #[.pointer (some ⟨Bl, 0, none⟩), .pointer (some ⟨Bn, 0, none⟩)] (fun x : Nat × Nat => #[.agg #[.int .i64 (x.1 : Int), .int .i64 (x.2 : Int)]]) (Below w.heap.size) (fun ys => ys = Bitm.runsTo l e) (fun _ => True) (e + 1) w :=
  fun Y J Jx W hBW hJ _ hY h0 => runs46 n hn Y Bl Bn w.heap.size l hl hf a c e he w hT hW rfl hBl hBn hcl hcn J Jx W hBW hJ hY h0

theorem runs20 (l : List Nat) (hl : l.length ≤ 1099511627) (hf : Bitm.Fit l) (a : Option Addr) (c : Nat) (m : Int) (w : World) (hT : Tab w) (h : WordsIn w a l) :
    Calls Tryd.prog 20 #[.slice a l.length c, .int .i64 m] w fun x w' => ∃ v, x = .returned v ∧ PairsV .i64 w' v (Bitm.runsTo l (heldN m l.length)) ∧ Below w.heap.size w w' := by
  refine (callsIn_wide (n := 8)).1 ?_
  have HH := fun n w => hide ((callsIn_wide (n := n)).2 (bheld31 a l.length c (by omega) m w))
  have he := heldN_le m l.length
  have hb2 := Boxed.new w 22 (.slice a l.length c)
  have hb3 := Boxed.new (w.alloc (.cells #[.slice a l.length c] 22)) 3 (.int .i64 (heldN m l.length : Int))
  rw [World.size_alloc] at hb3
  have hB0 : Below w.heap.size w ((w.alloc (.cells #[.slice a l.length c] 22)).alloc (.cells #[.int .i64 (heldN m l.length : Int)] 3)) := ((Below.refl _ w).alloc (Nat.le_refl _) _).alloc (by simp) _
  have hseq := runsStops 5 (by omega) w.heap.size (w.heap.size + 1) l (by omega) hf a c (heldN m l.length) he ((w.alloc (.cells #[.slice a l.length c] 22)).alloc (.cells #[.int .i64 (heldN m l.length : Int)] 3)) (hT.below hT.lt hB0) (h.below hB0 (Nat.le_refl _)) (by simp; omega) (by simp) (hb2.alloc _).cell hb3.cell
  have HC := hide (collectRunIn 7 (by omega) (fun x : Nat × Nat => x) 46 _ (enters_of Tryd.func46 (by kernel_rfl) rfl) (by omega) _ hseq)
  have HRR := fun w => hide (runsIn 7 (.slice a l.length c) ⟨_, _, _, rfl⟩ (heldN m l.length : Int) w)
  clear hseq
  obtain ⟨e, hee⟩ : ∃ e, heldN m l.length = e := ⟨_, rfl⟩
  rw [hee] at HH HC HRR he hB0 ⊢
  obtain ⟨k, hk⟩ : ∃ k, l.length = k := ⟨_, rfl⟩
  rw [hk] at HH HC HRR he hB0 ⊢
  clear hee hk hf hT h hb2 hb3 hl
  have h81 : (1 : Nat) ≤ 8 := by omega
  refine callsIn_of_wp Tryd.func20 rfl trivial ?_ rfl
  simp only [Tryd.ntmps20, List.size_toArray, List.length_cons, List.length_nil, Nat.reduceAdd, Nat.reduceSub, Array.replicate_succ, Array.replicate_zero, List.push_toArray, List.append_toArray, List.nil_append, List.cons_append]
  gi_wp2_with (first | (refine ⟨trivial, ?_⟩; gi_at_call 31; refine (HH _ _).out.mono ?_; rintro e w1 ⟨rfl, rfl⟩) | (refine ⟨trivial, ?_⟩; gi_at_call 37; refine (HRR _).out.mono ?_; rintro e w2 ⟨rfl, rfl⟩) | (refine ⟨trivial, ?_⟩; gi_at_call 36; refine HC.out.mono ?_; rintro e w3 ⟨ys, v, hS, rfl, hrow, hbel⟩; have HS := hide hS; clear hS))
  go_ret
  have hS := HS.out
  subst hS
  rw [show List.map (fun x : Nat × Nat => x) (Bitm.runsTo l e) = Bitm.runsTo l e from List.map_id' _] at hrow
  exact ⟨v, rfl, pairs_of_owns hrow, hB0.trans (hbel.mono hB0.size)⟩

end Go.Proofs.YtlicdlpebhalaaaDoor
