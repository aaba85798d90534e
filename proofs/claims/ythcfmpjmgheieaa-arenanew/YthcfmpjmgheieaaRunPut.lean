/- Package runs: Put. -/
import Derived.Test.YthcfmpjmgheieaaRunSort
import Derived.Deep.CutRange
import Derived.Deep.CutBlock
namespace Go.Proofs.Ythcfmpjmgheieaa
open Go.RowKit

set_option maxRecDepth 100000 in
set_option maxHeartbeats 1000000 in
theorem putArg (w : World) (r t : Nat) (T : Tr Unit) (pg : Nat) (a : Option Addr) (c : Nat) (ds : List Nat) (dn : Nat) (L : RL) (h : RAt w r t T pg a c ds dn L) (hp : pg ≤ 4096) (x n : Int) (hx : -9223372036854775808 ≤ x ∧ x ≤ 9223372036854775807) (hg : ¬ (1 ≤ n ∧ 0 ≤ x ∧ n ≤ (pg : Int) - x)) :
    Calls Try.prog 13 #[.pointer (some ⟨r, 0, none⟩), .int .i64 x, .int .i64 n] w fun e w' => e = .returned (.int .i64 1) ∧ Below w.heap.size w w' := by
  have hB : Below w.heap.size w ((w.alloc (.cells #[.int .i64 x] 3)).alloc (.cells #[.int .i64 0] 29)) := ((Below.refl _ w).alloc (Nat.le_refl _) _).alloc (by simp) _
  replace h := h.below hB
  obtain ⟨c0, _, _, _, _⟩ := h.cells
  have b0 : ((w.alloc (.cells #[.int .i64 x] 3)).alloc (.cells #[.int .i64 0] 29)).cell? ⟨w.heap.size, 0, none⟩ = some (.int .i64 x) := cell_of_heap (heap_alloc_old (heap_alloc_at _ _))
  have hb1 : ((w.alloc (.cells #[.int .i64 x] 3)).alloc (.cells #[.int .i64 0] 29)).heap[w.heap.size + 1]? = some (.cells #[.int .i64 0] 29 (0, 0)) := by
    have := heap_alloc_at (w.alloc (.cells #[.int .i64 x] 3)) (.cells #[.int .i64 0] 29)
    simpa using this
  have HB := hide hB
  have HB1 := hide hb1
  clear h hB hb1
  by_cases h1 : n < 1
  · have d1 : decide (n < 1) = true := by simp [h1]
    clear hg
    go_enter Try.func13, Try.ntmps13
    go_wp2_with fail
    generalize ((w.alloc (.cells #[.int .i64 x] 3)).alloc (.cells #[.int .i64 0] 29)) = V at *
    go_quiet (fail)
    have y0 : (V.drewN nq).cell? ⟨w.heap.size + 1, 0, none⟩ = some (.int .i64 0) := cell_of_heap HB1.out
    have yf : ∀ o, (V.drewN nq).frozen? ⟨w.heap.size + 1, o, none⟩ = false := fun o => frozen_of_heap HB1.out
    have HW : Hid (Below w.heap.size w ((V.drewN nq).setCell ⟨w.heap.size + 1, 0, none⟩ (.int .i64 1))) := hide ((HB.out.trans ((Alike.drewN V nq).below _)).setCell (p := ⟨w.heap.size + 1, 0, none⟩) (by simp) _)
    have HZ : Hid (((V.drewN nq).setCell ⟨w.heap.size + 1, 0, none⟩ (.int .i64 1)).cell? ⟨w.heap.size + 1, 0, none⟩ = some (.int .i64 1)) := hide (cell_of_heap (heap_setCell_at (w := V.drewN nq) (o := 0) HB1.out (.int .i64 1)))
    clear c0 b0
    go_wp2
    have z0 := HZ.out
    have hW := HW.out
    generalize (V.drewN nq).setCell ⟨w.heap.size + 1, 0, none⟩ (.int .i64 1) = W at z0 hW ⊢
    refine bodyPost_ret (by simp [results, Try.results13, z0, go_sem]; try rfl) rfl ?_
    exact ⟨rfl, hW⟩
  · have d1 : decide (n < 1) = false := by simp; omega
    by_cases h2 : x < 0
    · have d2 : decide (x < 0) = true := by simp [h2]
      clear hg
      go_enter Try.func13, Try.ntmps13
      go_wp2_with fail
      generalize ((w.alloc (.cells #[.int .i64 x] 3)).alloc (.cells #[.int .i64 0] 29)) = V at *
      go_quiet (fail)
      have y0 : (V.drewN nq).cell? ⟨w.heap.size + 1, 0, none⟩ = some (.int .i64 0) := cell_of_heap HB1.out
      have yf : ∀ o, (V.drewN nq).frozen? ⟨w.heap.size + 1, o, none⟩ = false := fun o => frozen_of_heap HB1.out
      have HW : Hid (Below w.heap.size w ((V.drewN nq).setCell ⟨w.heap.size + 1, 0, none⟩ (.int .i64 1))) := hide ((HB.out.trans ((Alike.drewN V nq).below _)).setCell (p := ⟨w.heap.size + 1, 0, none⟩) (by simp) _)
      have HZ : Hid (((V.drewN nq).setCell ⟨w.heap.size + 1, 0, none⟩ (.int .i64 1)).cell? ⟨w.heap.size + 1, 0, none⟩ = some (.int .i64 1)) := hide (cell_of_heap (heap_setCell_at (w := V.drewN nq) (o := 0) HB1.out (.int .i64 1)))
      clear c0 b0
      go_wp2
      have z0 := HZ.out
      have hW := HW.out
      generalize (V.drewN nq).setCell ⟨w.heap.size + 1, 0, none⟩ (.int .i64 1) = W at z0 hW ⊢
      refine bodyPost_ret (by simp [results, Try.results13, z0, go_sem]; try rfl) rfl ?_
      exact ⟨rfl, hW⟩
    · have d2 : decide (x < 0) = false := by simp; omega
      have d3 : decide ((pg : Int) - x < n) = true := by simp; omega
      clear hg
      go_enter Try.func13, Try.ntmps13
      go_wp2_with fail
      generalize ((w.alloc (.cells #[.int .i64 x] 3)).alloc (.cells #[.int .i64 0] 29)) = V at *
      go_quiet (fail)
      have y0 : (V.drewN nq).cell? ⟨w.heap.size + 1, 0, none⟩ = some (.int .i64 0) := cell_of_heap HB1.out
      have yf : ∀ o, (V.drewN nq).frozen? ⟨w.heap.size + 1, o, none⟩ = false := fun o => frozen_of_heap HB1.out
      have HW : Hid (Below w.heap.size w ((V.drewN nq).setCell ⟨w.heap.size + 1, 0, none⟩ (.int .i64 1))) := hide ((HB.out.trans ((Alike.drewN V nq).below _)).setCell (p := ⟨w.heap.size + 1, 0, none⟩) (by simp) _)
      have HZ : Hid (((V.drewN nq).setCell ⟨w.heap.size + 1, 0, none⟩ (.int .i64 1)).cell? ⟨w.heap.size + 1, 0, none⟩ = some (.int .i64 1)) := hide (cell_of_heap (heap_setCell_at (w := V.drewN nq) (o := 0) HB1.out (.int .i64 1)))
      clear c0 b0
      go_wp2
      have z0 := HZ.out
      have hW := HW.out
      generalize (V.drewN nq).setCell ⟨w.heap.size + 1, 0, none⟩ (.int .i64 1) = W at z0 hW ⊢
      refine bodyPost_ret (by simp [results, Try.results13, z0, go_sem]; try rfl) rfl ?_
      exact ⟨rfl, hW⟩

attribute [local go_sem] Oper.semAt_some

/-- What the first loop of Put has in memory: where, what has been told, the end, the runs beside. -/
def PutI (B : Nat) (x y : Int) (base : Nat) (bs : List Int) : Res := fun W G => ∃ G8, Boxed W B 3 (.int .i64 x) ∧ Boxed W (B + 1) 29 (.int .i64 0) ∧ Boxed W (B + 2) 3 (.int .i64 y) ∧
  BoxRow (B + 3) 63 84 base 2 bs.length (pairsI (bs.map rOf)) W G8 ∧ ∀ z, G z ↔ (z = B ∨ z = B + 1 ∨ z = B + 2) ∨ G8 z
theorem Loc.putI {B : Nat} {x y : Int} {base : Nat} {bs : List Int} : Loc (PutI B x y base bs) := by
  refine ⟨fun {w w' M G} ⟨G8, h1, h2, h3, h4, h5⟩ o hn => ⟨G8, (o.block _ h1.lt (hn _ ((h5 _).2 (.inl (.inl rfl))))).trans h1, (o.block _ h2.lt (hn _ ((h5 _).2 (.inl (.inr (.inl rfl)))))).trans h2, (o.block _ h3.lt (hn _ ((h5 _).2 (.inl (.inr (.inr rfl)))))).trans h3, Loc.boxRow.kept h4 o (fun z hz => hn z ((h5 z).2 (.inr hz))), h5⟩, fun {w G z} ⟨G8, h1, h2, h3, h4, h5⟩ hz => ?_⟩
  rcases (h5 z).1 hz with (rfl | rfl | rfl) | q
  · exact h1.lt
  · exact h2.lt
  · exact h3.lt
  · exact Loc.boxRow.lt h4 q
def PutS (B : Nat) (q : Prop) : Res := fun W G => q ∧ Boxed W (B + 1) 29 (.int .i64 4) ∧ ∀ z, G z ↔ z = B + 1
theorem Loc.putS {B : Nat} {q : Prop} : Loc (PutS B q) :=
  ⟨fun ⟨h0, h1, h2⟩ o hn => ⟨h0, (o.block _ h1.lt (hn _ ((h2 _).2 rfl))).trans h1, h2⟩, fun ⟨_, h1, h2⟩ hz => by have := (h2 _).1 hz; subst this; exact h1.lt⟩
def PutR (B : Nat) (x n y : Int) (base : Nat) (pre : List Int) : Res := fun W G => (∀ k ∈ pre, hits x n k = false) ∧ PutI B x y base (pre.filter (besd x n)) W G
theorem Loc.putR {B : Nat} {x n y : Int} {base : Nat} {pre : List Int} : Loc (PutR B x n y base pre) :=
  ⟨fun ⟨h0, h1⟩ o hn => ⟨h0, Loc.putI.kept h1 o hn⟩, fun ⟨_, h1⟩ hz => Loc.putI.lt h1 hz⟩

set_option maxRecDepth 100000 in
set_option maxHeartbeats 4000000 in
theorem putIn (w : World) (r t : Nat) (T : Tr Unit) (pg : Nat) (a : Option Addr) (c : Nat) (ds : List Nat) (dn : Nat) (L : RL) (h : RAt w r t T pg a c ds dn L) (hf : Fine pg ds dn L) (x n : Int) (hn : 1 ≤ n) (hx : 0 ≤ x) (hxn : n ≤ (pg : Int) - x) :
    Calls Try.prog 13 #[.pointer (some ⟨r, 0, none⟩), .int .i64 x, .int .i64 n] w fun e w' =>
      (e = .returned (.int .i64 4) ∧ (∃ i ∈ L, hits x n i.1 = true) ∧ Below w.heap.size w w') ∨
      (e = .returned (.int .i64 0) ∧ (∀ i ∈ L, hits x n i.1 = false) ∧ RTurned w w' r t T pg a c ds (dn + 1) (laidL x n (ds.getD dn 0) L)) := by
  refine (callsIn_wide (n := 9)).1 ?_
  have h91 : (1 : Nat) ≤ 9 := by omega
  have hp := hf.most
  have HRI := fun n w => hide (all39 n (some ⟨r, 0, none⟩) w)
  have HF := hide hf
  obtain ⟨B, hBe⟩ : ∃ B, w.heap.size = B := ⟨_, rfl⟩
  have hB : Below w.heap.size w ((w.alloc (.cells #[.int .i64 x] 3)).alloc (.cells #[.int .i64 0] 29)) := ((Below.refl _ w).alloc (Nat.le_refl _) _).alloc (by simp) _
  have HW := hide h
  replace h := h.below hB
  obtain ⟨c0, _, _, _, _⟩ := h.cells
  have hb0 : Boxed ((w.alloc (.cells #[.int .i64 x] 3)).alloc (.cells #[.int .i64 0] 29)) B 3 (.int .i64 x) := by rw [← hBe]; exact (Boxed.new w _ _).alloc _
  have hb1 : Boxed ((w.alloc (.cells #[.int .i64 x] 3)).alloc (.cells #[.int .i64 0] 29)) (B + 1) 29 (.int .i64 0) := by
    have := Boxed.new (w.alloc (.cells #[.int .i64 x] 3)) 29 (.int .i64 0)
    rw [World.size_alloc, hBe] at this; exact this
  have hvs : ((w.alloc (.cells #[.int .i64 x] 3)).alloc (.cells #[.int .i64 0] 29)).heap.size = B + 2 := by simp; omega
  have k0 := hb0.cell
  have d1 : decide (n < 1) = false := by simp; omega
  have d2 : decide (x < 0) = false := by simp; omega
  have d3 : decide ((pg : Int) - x < n) = false := by simp; omega
  have HH := hide h
  have HB := hide hB
  have HB0 := hide hb0
  have HB1 := hide hb1
  clear h hB hb0 hb1 hf
  refine callsIn_of_wp_marks Try.func13 rfl trivial ?_ rfl
  simp only [Try.ntmps13, List.size_toArray, List.length_cons, List.length_nil, Nat.reduceAdd, Nat.reduceSub, Array.replicate_succ, Array.replicate_zero, List.push_toArray, List.append_toArray, List.nil_append, List.cons_append]
  gi_wp2
  generalize ((w.alloc (.cells #[.int .i64 x] 3)).alloc (.cells #[.int .i64 0] 29)) = V at *
  gi_quiet (fail)
  have HV1 : Hid (Alike V (V.drewN nq)) := hide (Alike.drewN _ _)
  replace HH := hide (HH.out.alike HV1.out)
  replace HB := hide (HB.out.trans (HV1.out.below _))
  replace HB0 : Hid (Boxed (V.drewN nq) B 3 (.int .i64 x)) := hide (by have := HB0.out; unfold Boxed at *; rw [HV1.out.heap]; exact this)
  replace HB1 : Hid (Boxed (V.drewN nq) (B + 1) 29 (.int .i64 0)) := hide (by have := HB1.out; unfold Boxed at *; rw [HV1.out.heap]; exact this)
  have hv1 : (V.drewN nq).heap.size = B + 2 := by rw [HV1.out.heap]; exact hvs
  replace k0 : (V.drewN nq).cell? ⟨B, 0, none⟩ = some (.int .i64 x) := HB0.out.cell
  clear HV1 c0 hvs
  generalize V.drewN nq = V1 at *
  gi_wp2_with (refine ⟨trivial, ?_⟩; gi_at_call 48; refine (HRI _ _).out.mono ?_; rintro e w2 ⟨rfl, rfl⟩)
  have hB3 : Below V1.heap.size V1 (((V1.alloc (.cells #[.int .i64 (x + n)] 3)).alloc (.cells #[.slice none 0 0] 63)).alloc (.cells #[.pointer (some ⟨r, 0, none⟩)] 23)) := (((Below.refl _ V1).alloc (Nat.le_refl _) _).alloc (by simp) _).alloc (by simp; omega) _
  have hR3 := HH.out.below hB3
  have n0 : Boxed (((V1.alloc (.cells #[.int .i64 (x + n)] 3)).alloc (.cells #[.slice none 0 0] 63)).alloc (.cells #[.pointer (some ⟨r, 0, none⟩)] 23)) B 3 (.int .i64 x) := ((HB0.out.alloc _).alloc _).alloc _
  have n1 : Boxed (((V1.alloc (.cells #[.int .i64 (x + n)] 3)).alloc (.cells #[.slice none 0 0] 63)).alloc (.cells #[.pointer (some ⟨r, 0, none⟩)] 23)) (B + 1) 29 (.int .i64 0) := ((HB1.out.alloc _).alloc _).alloc _
  have n2 : Boxed (((V1.alloc (.cells #[.int .i64 (x + n)] 3)).alloc (.cells #[.slice none 0 0] 63)).alloc (.cells #[.pointer (some ⟨r, 0, none⟩)] 23)) (B + 2) 3 (.int .i64 (x + n)) := by
    have := ((Boxed.new V1 3 (.int .i64 (x + n))).alloc (.cells #[.slice none 0 0] 63)).alloc (.cells #[.pointer (some ⟨r, 0, none⟩)] 23)
    rw [hv1] at this; exact this
  have n3 : Boxed (((V1.alloc (.cells #[.int .i64 (x + n)] 3)).alloc (.cells #[.slice none 0 0] 63)).alloc (.cells #[.pointer (some ⟨r, 0, none⟩)] 23)) (B + 3) 63 (.slice none 0 0) := by
    have := (Boxed.new (V1.alloc (.cells #[.int .i64 (x + n)] 3)) 63 (.slice none 0 0)).alloc (.cells #[.pointer (some ⟨r, 0, none⟩)] 23)
    rw [World.size_alloc, hv1] at this; exact this
  have n4 : Boxed (((V1.alloc (.cells #[.int .i64 (x + n)] 3)).alloc (.cells #[.slice none 0 0] 63)).alloc (.cells #[.pointer (some ⟨r, 0, none⟩)] 23)) (B + 4) 23 (.pointer (some ⟨r, 0, none⟩)) := by
    have := Boxed.new ((V1.alloc (.cells #[.int .i64 (x + n)] 3)).alloc (.cells #[.slice none 0 0] 63)) 23 (.pointer (some ⟨r, 0, none⟩))
    rw [World.size_alloc, World.size_alloc, hv1] at this; exact this
  have hs3 : (((V1.alloc (.cells #[.int .i64 (x + n)] 3)).alloc (.cells #[.slice none 0 0] 63)).alloc (.cells #[.pointer (some ⟨r, 0, none⟩)] 23)).heap.size = B + 5 := by simp; omega
  have hseq := allSeqR 8 (by omega) (B + 4) r t T pg a c ds dn L _ hR3 HF.out n4.lt n4.cell
  have HBW := hide (HB.out.trans (hB3.mono HB.out.size))
  have HH3 := hide hR3
  have HKL : Hid ((L.map (·.1)).length ≤ 100000) := hide (by rw [List.length_map]; exact HF.out.len)
  have HKB : Hid (∀ k ∈ L.map (·.1), 0 ≤ rA k ∧ rA k < 8192 ∧ 1 ≤ rN k ∧ rN k ≤ 4096) := hide (fun k hk => by
    obtain ⟨i, hi, rfl⟩ := List.mem_map.1 hk
    have := HF.out.key hi; have := rA_bd i.1; omega)
  have HI0 : Hid (PutR B x n (x + n) (B + 3) [] (((V1.alloc (.cells #[.int .i64 (x + n)] 3)).alloc (.cells #[.slice none 0 0] 63)).alloc (.cells #[.pointer (some ⟨r, 0, none⟩)] 23)) (fun z => (z = B ∨ z = B + 1 ∨ z = B + 2) ∨ z = B + 3)) := hide ⟨by simp, _, n0, n1, n2, ⟨_, n3, World.ownsRow_nil _ _ _ _, fun z => by simp [Value.ownBlock]⟩, fun z => Iff.rfl⟩
  generalize (((V1.alloc (.cells #[.int .i64 (x + n)] 3)).alloc (.cells #[.slice none 0 0] 63)).alloc (.cells #[.pointer (some ⟨r, 0, none⟩)] 23)) = V3 at *
  clear k0 hv1 hB3 hR3 n0 n1 n2 n3 n4 HB HB0 HB1 HH HRI
  obtain ⟨i0, hi, hz0, hz1, hz2⟩ := info_parts infoRun
  refine wpIn_rangeR (F := Fence.wide) (s := 37) (t := 9) rfl h91 (gf := 71) (lb := #[.pointer (some ⟨B + 4, 0, none⟩)]) rfl trivial (enters_of Try.func71 (by kernel_rfl) rfl)
    runVal 84 hseq (Below.refl _ _)
    (PutR B x n (x + n) (B + 3)) (PutS B (∃ k ∈ L.map (·.1), hits x n k = true)) (fun _ => Loc.putR) Loc.putS HI0.out ?assign ?body ?done ?stop
  case assign =>
    intro l y W K hK
    unfold runVal
    gi_wp2
    exact hK
  case body =>
    rintro l pre k b V G1 hb hbV hnb ⟨hno, G8, m0, m1, m2, ⟨v, m3, m4, m5⟩, m6⟩ hbox hpx
    have hkb := HKB.out k (hpx.subset (by simp))
    have e0 : V.cell? ⟨b, 0, none⟩ = some (.int .i64 (rA k)) := cell_of_heap hbox
    have e1 : V.cell? ⟨b, 1, none⟩ = some (.int .i64 (rN k)) := cell_of_heap hbox
    have f0 := m0.cell
    have f1 := m1.cell
    have f1' := m1.frozen
    have f2 := m2.cell
    have f3 := m3.cell
    have HHI := hide (hits_iff (a := x) (n := n) (k := k))
    have HBE := hide (besd_iff (a := x) (n := n) (k := k))
    have HPX := hide hpx
    have HNO := hide hno
    have hsz : B + 5 ≤ V.heap.size := by omega
    have HM0 := hide m0
    have HM1 := hide m1
    have HM2 := hide m2
    have HM3 := hide m3
    have HM4 := hide m4
    have HM5 := hide m5
    have HM6 := hide m6
    have HFI : Hid ((pre ++ [k]).filter (besd x n) = pre.filter (besd x n) ++ (if besd x n k = true then [k] else [])) := hide (by rw [List.filter_append]; congr 1; by_cases q : besd x n k = true <;> simp [q])
    have HNN : Hid (hits x n k = false → ∀ j ∈ pre ++ [k], hits x n j = false) := hide (fun q j hj => by
      rcases List.mem_append.1 hj with u | u
      · exact hno j u
      · rw [List.mem_singleton] at u; rw [u]; exact q)
    clear hseq HI0 hbox hpx hno m0 m1 m2 m3 m4 m5 m6
    generalize hy : rA k = y at *
    generalize hz : rN k = z at *
    by_cases q1 : y < x + n ∧ x < y + z
    · have dd1 : decide (y < x + n) = true := by simp; omega
      have dd2 : decide (x < y + z) = true := by simp; omega
      have HST : Hid (∃ k ∈ L.map (·.1), hits x n k = true) := hide ⟨k, HPX.out.subset (by simp), HHI.out.2 (by omega)⟩
      clear hy hz
      gi_wp2
      exact endR.mk (fun j => j = B + 1) ((Only.refl G1 V).setCell (p := ⟨B + 1, 0, none⟩) (.inl ((HM6.out _).2 (.inl (.inr (.inl rfl))))) _) (fun j hj => .inl ((HM6.out _).2 (.inl (.inr (.inl hj))))) ⟨HST.out, HM1.out.set _, fun _ => Iff.rfl⟩
    · by_cases qA : y < x + n
      · by_cases qE : x = y + z
        · have dd1 : decide (y < x + n) = true := by simp; omega
          have dd2 : decide (x < y + z) = false := by simp; omega
          have dd3 : (y == x + n) = false := by simp; omega
          have dd4 : decide (y = x + n) = false := by simp; omega
          have dd5 : (x == y + z) = true := by simp; omega
          have dd6 : decide (x = y + z) = true := by simp; omega
          have HQ : Hid (hits x n k = false) := hide (by rw [← Bool.not_eq_true, HHI.out]; omega)
          have HE : Hid (besd x n k = true) := hide (by rw [HBE.out]; omega)
          have HYZ : Hid (rA k = y ∧ rN k = z) := hide ⟨hy, hz⟩
          clear hy hz HHI HBE q1 qE
          have hpl : (pre.filter (besd x n)).length + 1 ≤ 100000 := by have e1 := HPX.out.length_le; have e2 := List.length_filter_le (besd x n) pre; have e3 := HKL.out; rw [List.length_append] at e1; simp at e1; simp at e3; omega
          generalize hbs : pre.filter (besd x n) = bs at *
          clear hbs
          gi_wp2_with (gi_at_builtin; refine wpListIn_append_at _ rfl _ _ 63 rfl (B + 3) 84 i0 (.agg #[.int .i64 0, .int .i64 0]) 2 16 Try.underlying63 hi hz0 hz1 hz2 rfl (by decide) _ _ _ rfl (HM4.out.alloc _) ⟨V.heap.size, 0, none⟩ 1 1 [.int .i64 y, .int .i64 z] rfl rfl (cell_two_new _ _ _ _) (by simp [Value.oneCell']) (by unfold maxLen; omega) (by omega) (by simp; omega) ?_; intro v' w3 hown' hgrow' hat; obtain ⟨g', cap', rfl⟩ := ownsRow_succ hown'; obtain ⟨hv1, ho3, hr3, hg3⟩ := BoxRow.appended HM3.out (by decide) HM4.out HM5.out hown' hgrow' (by have q := hat; rw [World.size_alloc] at q; exact q); have hc1 := hv1.cell; have hf1 := hv1.frozen)
          have hnr : ∀ (j : Nat) (T0 : TypeId) (u : Value), T0 ≠ 84 → j ≠ B + 3 → Boxed V j T0 u → ¬ G8 j := fun j T0 u ht hj hbx e => by
            rcases (HM5.out j).1 e with q | q
            · exact hj q
            · exact hbx.not_row ht HM4.out q.symm
          refine endR.mk (fun j => (j = B ∨ j = B + 1 ∨ j = B + 2) ∨ (j = B + 3 ∨ (Value.slice (some ⟨g', 0, none⟩) (bs.length + 1) cap').ownBlock = some j)) (ho3.mono (fun j _ hj => (HM6.out j).2 (.inr hj))) (fun j hj => ?_) ⟨HNN.out HQ.out, _, ?_, ?_, ?_, ?_, fun j => Iff.rfl⟩
          · rcases hj with hj | hj
            · exact .inl ((HM6.out j).2 (.inl hj))
            · exact (hg3 j hj).imp (fun q => (HM6.out j).2 (.inr q)) (fun q => q)
          · exact (ho3.block B HM0.out.lt (hnr _ _ _ (by decide) (by omega) HM0.out)).trans HM0.out
          · exact (ho3.block (B + 1) HM1.out.lt (hnr _ _ _ (by decide) (by omega) HM1.out)).trans HM1.out
          · exact (ho3.block (B + 2) HM2.out.lt (hnr _ _ _ (by decide) (by omega) HM2.out)).trans HM2.out
          · rw [HFI.out, HE.out, if_pos rfl, List.length_append, List.map_append]
            have e : pairsI (bs.map rOf ++ [k].map rOf) = pairsI (bs.map rOf) ++ [.int .i64 y, .int .i64 z] := by rw [← HYZ.out.1, ← HYZ.out.2]; simp [pairsI, rOf]
            rw [e]
            exact hr3
        · have dd1 : decide (y < x + n) = true := by simp; omega
          have dd2 : decide (x < y + z) = false := by simp; omega
          have dd3 : (y == x + n) = false := by simp; omega
          have dd4 : decide (y = x + n) = false := by simp; omega
          have dd5 : (x == y + z) = false := by simp; omega
          have dd6 : decide (x = y + z) = false := by simp; omega
          have HQ : Hid (hits x n k = false) := hide (by rw [← Bool.not_eq_true, HHI.out]; omega)
          have HE : Hid (besd x n k = false) := hide (by rw [← Bool.not_eq_true, HBE.out]; omega)
          clear hy hz HHI HBE q1
          gi_wp2
          refine endR.mk G1 (Only.refl _ _) (fun _ h => .inl h) ⟨HNN.out HQ.out, G8, HM0.out, HM1.out, HM2.out, ?_, HM6.out⟩
          rw [HFI.out, HE.out, if_neg (by simp), List.append_nil]
          exact ⟨v, HM3.out, HM4.out, HM5.out⟩
      · by_cases qD : y = x + n
        · have dd1 : decide (y < x + n) = false := by simp; omega
          have dd3 : (y == x + n) = true := by simp; omega
          have dd4 : decide (y = x + n) = true := by simp; omega
          have HQ : Hid (hits x n k = false) := hide (by rw [← Bool.not_eq_true, HHI.out]; omega)
          have HE : Hid (besd x n k = true) := hide (by rw [HBE.out]; omega)
          have HYZ : Hid (rA k = y ∧ rN k = z) := hide ⟨hy, hz⟩
          clear hy hz HHI HBE q1 qD
          have hpl : (pre.filter (besd x n)).length + 1 ≤ 100000 := by have e1 := HPX.out.length_le; have e2 := List.length_filter_le (besd x n) pre; have e3 := HKL.out; rw [List.length_append] at e1; simp at e1; simp at e3; omega
          generalize hbs : pre.filter (besd x n) = bs at *
          clear hbs
          gi_wp2_with (gi_at_builtin; refine wpListIn_append_at _ rfl _ _ 63 rfl (B + 3) 84 i0 (.agg #[.int .i64 0, .int .i64 0]) 2 16 Try.underlying63 hi hz0 hz1 hz2 rfl (by decide) _ _ _ rfl (HM4.out.alloc _) ⟨V.heap.size, 0, none⟩ 1 1 [.int .i64 y, .int .i64 z] rfl rfl (cell_two_new _ _ _ _) (by simp [Value.oneCell']) (by unfold maxLen; omega) (by omega) (by simp; omega) ?_; intro v' w3 hown' hgrow' hat; obtain ⟨g', cap', rfl⟩ := ownsRow_succ hown'; obtain ⟨hv1, ho3, hr3, hg3⟩ := BoxRow.appended HM3.out (by decide) HM4.out HM5.out hown' hgrow' (by have q := hat; rw [World.size_alloc] at q; exact q); have hc1 := hv1.cell; have hf1 := hv1.frozen)
          have hnr : ∀ (j : Nat) (T0 : TypeId) (u : Value), T0 ≠ 84 → j ≠ B + 3 → Boxed V j T0 u → ¬ G8 j := fun j T0 u ht hj hbx e => by
            rcases (HM5.out j).1 e with q | q
            · exact hj q
            · exact hbx.not_row ht HM4.out q.symm
          refine endR.mk (fun j => (j = B ∨ j = B + 1 ∨ j = B + 2) ∨ (j = B + 3 ∨ (Value.slice (some ⟨g', 0, none⟩) (bs.length + 1) cap').ownBlock = some j)) (ho3.mono (fun j _ hj => (HM6.out j).2 (.inr hj))) (fun j hj => ?_) ⟨HNN.out HQ.out, _, ?_, ?_, ?_, ?_, fun j => Iff.rfl⟩
          · rcases hj with hj | hj
            · exact .inl ((HM6.out j).2 (.inl hj))
            · exact (hg3 j hj).imp (fun q => (HM6.out j).2 (.inr q)) (fun q => q)
          · exact (ho3.block B HM0.out.lt (hnr _ _ _ (by decide) (by omega) HM0.out)).trans HM0.out
          · exact (ho3.block (B + 1) HM1.out.lt (hnr _ _ _ (by decide) (by omega) HM1.out)).trans HM1.out
          · exact (ho3.block (B + 2) HM2.out.lt (hnr _ _ _ (by decide) (by omega) HM2.out)).trans HM2.out
          · rw [HFI.out, HE.out, if_pos rfl, List.length_append, List.map_append]
            have e : pairsI (bs.map rOf ++ [k].map rOf) = pairsI (bs.map rOf) ++ [.int .i64 y, .int .i64 z] := by rw [← HYZ.out.1, ← HYZ.out.2]; simp [pairsI, rOf]
            rw [e]
            exact hr3
        · by_cases qE : x = y + z
          · have dd1 : decide (y < x + n) = false := by simp; omega
            have dd3 : (y == x + n) = false := by simp; omega
            have dd4 : decide (y = x + n) = false := by simp; omega
            have dd5 : (x == y + z) = true := by simp; omega
            have dd6 : decide (x = y + z) = true := by simp; omega
            have HQ : Hid (hits x n k = false) := hide (by rw [← Bool.not_eq_true, HHI.out]; omega)
            have HE : Hid (besd x n k = true) := hide (by rw [HBE.out]; omega)
            have HYZ : Hid (rA k = y ∧ rN k = z) := hide ⟨hy, hz⟩
            clear hy hz HHI HBE q1 qE
            have hpl : (pre.filter (besd x n)).length + 1 ≤ 100000 := by have e1 := HPX.out.length_le; have e2 := List.length_filter_le (besd x n) pre; have e3 := HKL.out; rw [List.length_append] at e1; simp at e1; simp at e3; omega
            generalize hbs : pre.filter (besd x n) = bs at *
            clear hbs
            gi_wp2_with (gi_at_builtin; refine wpListIn_append_at _ rfl _ _ 63 rfl (B + 3) 84 i0 (.agg #[.int .i64 0, .int .i64 0]) 2 16 Try.underlying63 hi hz0 hz1 hz2 rfl (by decide) _ _ _ rfl (HM4.out.alloc _) ⟨V.heap.size, 0, none⟩ 1 1 [.int .i64 y, .int .i64 z] rfl rfl (cell_two_new _ _ _ _) (by simp [Value.oneCell']) (by unfold maxLen; omega) (by omega) (by simp; omega) ?_; intro v' w3 hown' hgrow' hat; obtain ⟨g', cap', rfl⟩ := ownsRow_succ hown'; obtain ⟨hv1, ho3, hr3, hg3⟩ := BoxRow.appended HM3.out (by decide) HM4.out HM5.out hown' hgrow' (by have q := hat; rw [World.size_alloc] at q; exact q); have hc1 := hv1.cell; have hf1 := hv1.frozen)
            have hnr : ∀ (j : Nat) (T0 : TypeId) (u : Value), T0 ≠ 84 → j ≠ B + 3 → Boxed V j T0 u → ¬ G8 j := fun j T0 u ht hj hbx e => by
              rcases (HM5.out j).1 e with q | q
              · exact hj q
              · exact hbx.not_row ht HM4.out q.symm
            refine endR.mk (fun j => (j = B ∨ j = B + 1 ∨ j = B + 2) ∨ (j = B + 3 ∨ (Value.slice (some ⟨g', 0, none⟩) (bs.length + 1) cap').ownBlock = some j)) (ho3.mono (fun j _ hj => (HM6.out j).2 (.inr hj))) (fun j hj => ?_) ⟨HNN.out HQ.out, _, ?_, ?_, ?_, ?_, fun j => Iff.rfl⟩
            · rcases hj with hj | hj
              · exact .inl ((HM6.out j).2 (.inl hj))
              · exact (hg3 j hj).imp (fun q => (HM6.out j).2 (.inr q)) (fun q => q)
            · exact (ho3.block B HM0.out.lt (hnr _ _ _ (by decide) (by omega) HM0.out)).trans HM0.out
            · exact (ho3.block (B + 1) HM1.out.lt (hnr _ _ _ (by decide) (by omega) HM1.out)).trans HM1.out
            · exact (ho3.block (B + 2) HM2.out.lt (hnr _ _ _ (by decide) (by omega) HM2.out)).trans HM2.out
            · rw [HFI.out, HE.out, if_pos rfl, List.length_append, List.map_append]
              have e : pairsI (bs.map rOf ++ [k].map rOf) = pairsI (bs.map rOf) ++ [.int .i64 y, .int .i64 z] := by rw [← HYZ.out.1, ← HYZ.out.2]; simp [pairsI, rOf]
              rw [e]
              exact hr3
          · have dd1 : decide (y < x + n) = false := by simp; omega
            have dd3 : (y == x + n) = false := by simp; omega
            have dd4 : decide (y = x + n) = false := by simp; omega
            have dd5 : (x == y + z) = false := by simp; omega
            have dd6 : decide (x = y + z) = false := by simp; omega
            have HQ : Hid (hits x n k = false) := hide (by rw [← Bool.not_eq_true, HHI.out]; omega)
            have HE : Hid (besd x n k = false) := hide (by rw [← Bool.not_eq_true, HBE.out]; omega)
            clear hy hz HHI HBE q1
            gi_wp2
            refine endR.mk G1 (Only.refl _ _) (fun _ h => .inl h) ⟨HNN.out HQ.out, G8, HM0.out, HM1.out, HM2.out, ?_, HM6.out⟩
            rw [HFI.out, HE.out, if_neg (by simp), List.append_nil]
            exact ⟨v, HM3.out, HM4.out, HM5.out⟩
  case stop =>
    rintro D W G hD hnD ⟨hq, hb1, hg⟩ ho hgg hK
    have HQ : Hid (∃ i ∈ L, hits x n i.1 = true) := hide (by obtain ⟨k, hk, q⟩ := hq; obtain ⟨i, hi, rfl⟩ := List.mem_map.1 hk; exact ⟨i, hi, q⟩)
    have HO := hide ho
    have z0 : (W.putObj D (.deferred none)).cell? ⟨B + 1, 0, none⟩ = some (.int .i64 4) := (World.cell?_of_block (World.putObj_heap_other (by simp; omega))).trans hb1.cell
    clear hq hb1 hg ho hgg hseq HI0
    gi_wp2
    refine ⟨by simp, .inl ⟨_, _, rfl, run_takeDeferred hK, ?_⟩⟩
    refine ⟨_, (by simp [results, Try.results13, z0, go_sem]; try rfl), .inl ⟨rfl, HQ.out, ?_⟩⟩
    exact (HBW.out.trans (HO.out.below HBW.out.size (fun q hq => by omega))).trans (Below.putObj W _ (by omega))
  case done =>
    rintro D W G hD hnD ⟨hno, G8, m0, m1, m2, ⟨v, m3, m4, m5⟩, m6⟩ ho hgg hK
    have hWV : RAt W r t T pg a c ds dn L := HH3.out.kept ho (fun q hq e => by have := HW.out.lt hq; omega)
    have HNO : Hid (∀ i ∈ L, hits x n i.1 = false) := hide (fun i hi => hno i.1 (List.mem_map.2 ⟨i, hi, rfl⟩))
    have HBK : Hid ((L.map (·.1)).filter (besd x n) = besK x n L) := hide rfl
    rw [HBK.out] at m4
    have f0 := m0.cell
    have f3 := (m3.alloc (.cells #[.int .i64 x, .int .i64 n] 84)).cell
    have hWB : Below w.heap.size w W := HBW.out.trans (ho.below HBW.out.size (fun q hq => by omega))
    have HWB := hide hWB
    have HWV := hide hWV
    have HM1 := hide m1
    have HM4 := hide m4
    have HKD := hide hK
    have hDl := lt_of_heap hK
    have hWs : B + 5 ≤ W.heap.size := by have := ho.size; omega
    have HVD : Hid (∀ g, v.ownBlock = some g → g ≠ D) := hide (fun g hg e => hnD ((m6 D).2 (.inr ((m5 D).2 (.inr (by rw [← e]; exact hg))))))
    have HVB : Hid (∀ g, v.ownBlock = some g → B + 3 ≤ g ∧ g < W.heap.size) := hide (fun g hg => m4.lt g hg)
    obtain ⟨va, vc, rfl⟩ := ownsRow_slice m4
    clear hseq HI0 HKB HKL hno m0 m1 m2 m3 m4 m5 m6 ho hgg hWV hWB hnD HBK HH3 HBW hK
    generalize hbs : besK x n L = bs at *
    obtain ⟨m, hm⟩ : ∃ m, bs.length = m := ⟨_, rfl⟩
    rw [hm] at f3 HM4 HVD HVB
    have HBS := hide hbs
    have HM := hide hm
    clear hbs hm
    gi_wp2
    obtain ⟨Z, hZ⟩ : ∃ Z, W.heap.size = Z := ⟨_, rfl⟩
    have hW0 : (W.alloc (.cells #[.int .i64 x, .int .i64 n] 84)).heap[Z]? = some (.cells #[.int .i64 x, .int .i64 n] 84 (0, 0)) := by rw [← hZ]; exact heap_alloc_at _ _
    have hs0 : (W.alloc (.cells #[.int .i64 x, .int .i64 n] 84)).heap.size = Z + 1 := by simp; omega
    have hB0 : Below W.heap.size W (W.alloc (.cells #[.int .i64 x, .int .i64 n] 84)) := (Below.refl _ W).alloc (Nat.le_refl _) _
    replace HWV := hide (HWV.out.below hB0)
    have HZT : Hid (¬ RM r t T Z) := hide (fun e => by have := HW.out.lt (x := Z) (e.elim .inl (fun q => .inr (.inl q))); omega)
    replace HWB := hide (HWB.out.trans (hB0.mono HWB.out.size))
    replace HM1 := hide (HM1.out.alloc (.cells #[.int .i64 x, .int .i64 n] 84))
    replace HM4 := hide (HM4.out.alloc (.cells #[.int .i64 x, .int .i64 n] 84))
    replace HKD : Hid ((W.alloc (.cells #[.int .i64 x, .int .i64 n] 84)).heap[D]? = some (.deferred (some []))) := hide ((hB0.block D hDl).trans HKD.out)
    clear f0 f3 hB0
    generalize W.alloc (.cells #[.int .i64 x, .int .i64 n] 84) = W0 at *
    have HW0 := hide hW0
    have HND : Hid (bs.Nodup ∧ ∀ k ∈ bs, besd x n k = true ∧ ∃ i ∈ L, i.1 = k) := hide (by rw [← HBS.out]; exact ⟨(keys_nodup HF.out.good.ris).filter _, fun k hk => besK_mem.1 hk⟩)
    have HJ0 : Hid (Joins pg x n L (x, n) L) := hide (Joins.start HF.out.good hx hn (by omega) HNO.out)
    have HTB : Hid (∀ q, RM r t T q → q < B) := hide (fun q hq => by rw [← hBe]; exact HW.out.lt (hq.elim .inl (fun u => .inr (.inl u))))
    have HKO := fun n y z h w => hide ((callsIn_wide (n := n)).2 (keyOf36 y z h w))
    have hmb : m ≤ 100000 := by rw [← HM.out, ← HBS.out]; have e1 := List.length_filter_le (besd x n) (L.map (·.1)); rw [List.length_map] at e1; exact Nat.le_trans e1 HF.out.len
    clear hW0
    rw [hZ]
    gi_loopg [13, 72] m (fun g r13 r72 wr => ∃ (j : Nat) (y z : Int) (L' : RL) (T' : Tr Unit), j + g = m ∧ r72 = .int .i64 (j : Int) ∧ (y, z) = (bs.take j).foldl joinR (x, n) ∧ L' = delsL (bs.take j) L ∧ Joins pg x n L (y, z) L' ∧ RAt wr r t T' pg a c ds dn L' ∧ L'.length ≤ 100000 ∧
      Only (fun q => RM r t T q ∨ q = Z) W0 wr ∧ (∀ q, RM r t T' q → RM r t T q ∨ Z + 1 ≤ q) ∧ wr.heap[Z]? = some (.cells #[.int .i64 y, .int .i64 z] 84 (0, 0)))
    case atStart => exact ⟨0, x, n, L, T, by simp, rfl, rfl, rfl, HJ0.out, HWV.out, HF.out.len, Only.refl _ _, fun _ h => .inl h, HW0.out⟩
    case round =>
      obtain ⟨j, y, z, L', T', hj, rfl, hyz, hL', hJ, hR, hLl, hO, hM, hZc⟩ := hrel
      by_cases hjm : j = m
      · have d4 : decide ((j : Int) < (m : Int)) = false := by simp; omega
        have d5 : decide (j < m) = false := by simp; omega
        have hbt : bs.take j = bs := List.take_of_length_le (by rw [HM.out]; omega)
        rw [hbt] at hyz hL'
        have hjp := joins_put HF.out.good hx hn (by omega) HNO.out
        rw [HBS.out] at hjp
        have hwl : wholeL x n bs = (y, z) := hyz.symm
        rw [hwl, ← hL'] at hjp
        have HLA : Hid (laidL x n (ds.getD dn 0) L = insL (kOf y z) (ds.getD dn 0) () L') := hide (by unfold laidL; rw [HBS.out, hwl, ← hL'])
        have j1 := hJ.lo; have j2 := hJ.pos; have j3 := hJ.hi
        simp only at j1 j2 j3
        have HLAY := hide ((callsIn_wide (n := 9 - 1)).2 (lay32 wr r t T' pg a c ds dn L' hR y z (by omega) (hjp.2.no j1 (by omega) j2) (by omega) (by have := HF.out.dn; omega)))
        have a0 : wr.cell? ⟨Z, 0, none⟩ = some (.int .i64 y) := cell_of_heap hZc
        have a1 : wr.cell? ⟨Z, 1, none⟩ = some (.int .i64 z) := cell_of_heap hZc
        have HO := hide hO
        have HM' := hide hM
        clear hjp hwl hJ hyz hL' hZc hO hM hR hbt
        have HBP : Hid (∀ q, q < B + 3 → B ≤ q ∨ q = D → ¬ RM r t T' q) := hide (fun q _ h2 f => by rcases HM'.out q f with u | u; have := HTB.out q u; omega; omega)
        have HB1P : ∀ w2, RTurned wr w2 r t T' pg a c ds (dn + 1) (insL (kOf y z) (ds.getD dn 0) () L') → Boxed w2 (B + 1) 29 (.int .i64 0) := fun w2 hl => by
          obtain ⟨_, _, o2, _⟩ := hl
          have e1 : wr.heap[B + 1]? = W0.heap[B + 1]? := HO.out.block (B + 1) (by omega) (fun f => by rcases f with f | f; have := HTB.out _ f; omega; omega)
          have e2 : w2.heap[B + 1]? = wr.heap[B + 1]? := o2.block (B + 1) (by have := HO.out.size; omega) (HBP.out _ (by omega) (.inl (by omega)))
          exact (e2.trans e1).trans HM1.out
        have HDP : ∀ w2, RTurned wr w2 r t T' pg a c ds (dn + 1) (insL (kOf y z) (ds.getD dn 0) () L') → w2.heap[D]? = some (.deferred (some [])) := fun w2 hl => by
          obtain ⟨_, _, o2, _⟩ := hl
          have hnd : ¬ RM r t T D := fun f => by have := HTB.out _ f; omega
          have e1 : wr.heap[D]? = W0.heap[D]? := HO.out.block D (by omega) (fun f => by rcases f with f | f; exact hnd f; omega)
          have e2 : w2.heap[D]? = wr.heap[D]? := o2.block D (by have := HO.out.size; omega) (fun f => by rcases HM'.out D f with u | u; exact hnd u; omega)
          exact (e2.trans e1).trans HKD.out
        have HBPH := hide HB1P
        have HDPH := hide HDP
        clear HB1P HDP
        gi_wp2_with (refine ⟨trivial, ?_⟩; gi_at_call 41; refine HLAY.out.mono ?_; rintro e w2 ⟨rfl, hlay⟩; have hb1 := HBPH.out w2 hlay; have y0 := hb1.cell; have yf := hb1.frozen; have HLY := hide hlay; clear hlay)
        have hKD : (w2.setCell ⟨B + 1, 0, none⟩ (.int .i64 0)).heap[D]? = some (.deferred (some [])) := (heap_setCell_ne (by omega) _).trans (HDPH.out w2 HLY.out)
        have z0 : ((w2.setCell ⟨B + 1, 0, none⟩ (.int .i64 0)).putObj D (.deferred none)).cell? ⟨B + 1, 0, none⟩ = some (.int .i64 0) := (World.cell?_of_block (World.putObj_heap_other (by simp; omega))).trans (hb1.set _).cell
        refine ⟨by simp, .inl ⟨_, _, rfl, run_takeDeferred hKD, ?_⟩⟩
        refine ⟨_, (by simp [results, Try.results13, z0, go_sem]; try rfl), .inr ⟨rfl, HNO.out, ?_⟩⟩
        rw [HLA.out]
        obtain ⟨T2, k2, o2, m2⟩ := HLY.out
        have hws := HO.out.size
        have oF : Only (fun q => q = B + 1 ∨ q = D) w2 ((w2.setCell ⟨B + 1, 0, none⟩ (.int .i64 0)).putObj D (.deferred none)) := ((Only.refl (fun q => q = B + 1 ∨ q = D) w2).setCell (p := ⟨B + 1, 0, none⟩) (.inl (.inl rfl)) _).trans (Only.putObj _ _ (.inr rfl))
        have hT2 : ∀ q, RM r t T2 q → RM r t T q ∨ Z + 1 ≤ q := fun q f => by
          rcases m2 q f with u | u
          · exact HM'.out q u
          · exact .inr (by omega)
        have o3 := ((Below.only HWB.out (RM r t T)).thenNew HO.out (fun q hq f => f.elim (fun e => e) (fun e => by omega))).thenNew o2 (fun q hq f => by rcases HM'.out q f with u | u; exact u; omega)
        refine ⟨T2, k2.kept oF (fun q hq e => ?_), o3.thenNew oF (fun q hq f => by omega), fun q f => (hT2 q f).imp (fun u => u) (fun u => by omega)⟩
        rcases hq with hq | hq | hq
        · rcases hT2 q (.inl hq) with u | u
          · have := HTB.out q u; omega
          · omega
        · rcases hT2 q (.inr hq) with u | u
          · have := HTB.out q u; omega
          · omega
        · have := HW.out.lt (x := q) (.inr (.inr hq)); omega
      · have hjm' : j < m := by omega
        have d4 : decide ((j : Int) < (m : Int)) = true := by simp; omega
        have d5 : decide (j < m) = true := by simp; omega
        have hjb : j < bs.length := by rw [HM.out]; exact hjm'
        obtain ⟨k, hk⟩ : ∃ k, bs[j] = k := ⟨_, rfl⟩
        have htk : bs.take (j + 1) = bs.take j ++ [k] := by rw [List.take_succ_eq_append_getElem hjb, hk]
        have hva : ∃ g, va = some ⟨g, 0, none⟩ := by
          rcases HM4.out.2 with ⟨_, h00⟩ | ⟨g, cap, cur, hv, _⟩
          · omega
          · cases hv; exact ⟨g, rfl⟩
        obtain ⟨g, rfl⟩ := hva
        obtain ⟨hgB, hgZ⟩ := HVB.out g rfl
        rw [hZ] at hgZ
        have hgk : wr.heap[g]? = W0.heap[g]? := hO.block g (by omega) (fun e => by rcases e with e | e; have := HTB.out g e; omega; omega)
        have hrow := ownsRow_same HM4.out hgk
        have hpg := pairsI_get (bs.map rOf) j (by rw [List.length_map]; exact hjb)
        have hgd : (bs.map rOf).getD j (0, 0) = (rA k, rN k) := by simp [List.getD, hjb, rOf, hk]
        rw [hgd] at hpg
        have c0 : wr.cell? ⟨g, j * 2, none⟩ = some (.int .i64 (rA k)) := (World.ownsRow.cellAt hrow (j * 2) (by omega)).trans hpg.1
        have c1 : wr.cell? ⟨g, j * 2 + 1, none⟩ = some (.int .i64 (rN k)) := (World.ownsRow.cellAt hrow (j * 2 + 1) (by omega)).trans hpg.2
        have hkm : k ∈ bs := by rw [← hk]; exact List.getElem_mem _
        obtain ⟨hbk, ⟨k', d, v⟩, hiL, hik⟩ := HND.out.2 k hkm
        simp only at hik
        subst hik
        have hnt : k' ∉ bs.take j := fun e => by
          have := HND.out.1
          rw [← List.take_append_drop (j + 1) bs, htk, List.append_assoc, List.nodup_append] at this
          exact this.2.2 k' e k' (by simp) rfl
        have hi' : (k', d, v) ∈ L' := by rw [hL']; exact dels_mem.2 ⟨hiL, hnt⟩
        have HGE := hide (getL_of_mem hR.tree.ris hi')
        have hran := hJ.good.ran _ hi'
        simp only at hran
        have hrb := rA_bd k'
        have j1 := hJ.lo; have j2 := hJ.pos; have j3 := hJ.hi
        simp only at j1 j2 j3
        have HST := hide (hJ.step hi' hbk)
        have HY2 : Hid ((joinR (y, z) k') = (bs.take (j + 1)).foldl joinR (x, n)) := hide (by rw [htk, List.foldl_append, ← hyz]; rfl)
        have HL2 : Hid (delL k' L' = delsL (bs.take (j + 1)) L) := hide (by rw [htk, hL']; simp [delsL, List.foldl_append])
        have HK := fun n w => HKO n (rA k') (rN k') (by omega) w
        have hkr := k_r k'
        rw [hkr] at HK
        have HJM : Hid (joinR (y, z) k' = (min y (rA k'), z + rN k')) := hide rfl
        have hB1 : Below wr.heap.size wr (wr.alloc (.cells #[.int .i64 (rA k'), .int .i64 (rN k')] 84)) := (Below.refl _ wr).alloc (Nat.le_refl _) _
        have HH := hide (hR.below hB1)
        obtain ⟨X, hX⟩ : ∃ X, wr.heap.size = X := ⟨_, rfl⟩
        have hZX : Z < X := by have := lt_of_heap hZc; omega
        have HBX : Hid ((wr.alloc (.cells #[.int .i64 (rA k'), .int .i64 (rN k')] 84)).heap[X]? = some (.cells #[.int .i64 (rA k'), .int .i64 (rN k')] 84 (0, 0))) := hide (by rw [← hX]; exact heap_alloc_at _ _)
        have HBT : Hid (¬ RM r t T' X) := hide (fun e => by have := hR.lt (x := X) (e.elim .inl (fun q => .inr (.inl q))); omega)
        have HZc := hide (heap_alloc_old (o := .cells #[.int .i64 (rA k'), .int .i64 (rN k')] 84) hZc)
        have HO1 := hide (hO.trans (Below.only hB1 _))
        have HM' := hide hM
        have HLl := hide hLl
        have hjj := hj
        clear hrow hpg hgd hL' hyz hJ hR hO hM hZc hB1 hgk hbk hiL hi' htk hk hkm hnt hkr hLl hj
        generalize rA k' = p at *
        generalize rN k' = q at *
        gi_wp2
        generalize wr.alloc (.cells #[.int .i64 p, .int .i64 q] 84) = WW at *
        have C0 : Hid (CellsOf [(r, 1, .pointer (some ⟨t, 0, none⟩)), (X, 0, .int .i64 p), (X, 1, .int .i64 q)] WW.drew) := by
          obtain ⟨_, C1, _, _, _⟩ := HH.out.cells
          intro u hu
          simp only [List.mem_cons, List.not_mem_nil, or_false] at hu
          rcases hu with rfl | rfl | rfl
          · exact C1
          · exact cell_of_heap HBX.out
          · exact cell_of_heap HBX.out
        obtain ⟨CL, hCL⟩ : ∃ CL : List (Nat × Nat × Value), CL = [(r, 1, .pointer (some ⟨t, 0, none⟩)), (X, 0, .int .i64 p), (X, 1, .int .i64 q)] := ⟨_, rfl⟩
        have u0 : ∀ u : Mem (CellsOf CL), u.w'.cell? ⟨r, 1, none⟩ = some (.pointer (some ⟨t, 0, none⟩)) := fun u => u.h (r, 1, .pointer (some ⟨t, 0, none⟩)) (by simp [hCL])
        have u1 : ∀ u : Mem (CellsOf CL), u.w'.cell? ⟨X, 0, none⟩ = some (.int .i64 p) := fun u => u.h (X, 0, .int .i64 p) (by simp [hCL])
        have u2 : ∀ u : Mem (CellsOf CL), u.w'.cell? ⟨X, 1, none⟩ = some (.int .i64 q) := fun u => u.h (X, 1, .int .i64 q) (by simp [hCL])
        rw [← hCL] at C0
        have hne : Nonempty (Mem (CellsOf CL)) := ⟨⟨_, C0.out⟩⟩
        have HCM : Hid (∀ u ∈ CL, u.1 = r ∨ u.1 = X) := hide (by rw [hCL]; simp)
        clear hCL
        refine wpIn_noPanic ?_
        refine region_startIn (J := CellsOf CL) (by kernel_rfl) ?_
        refine stretchIn (fuel := 2) (fun _ => trivial) rfl (by kernel_rfl) (fun c _ _ _ _ h => absurd rfl (h.1 c)) C0.out [0, 1, 2, 3, 4] (by kernel_rfl) ?_
        simp only [List.filterMap_cons, List.filterMap_nil, List.getElem?_toArray, List.getElem?_cons_zero, List.getElem?_cons_succ]
        show wpQuiet _ _ _ _ [_, _, _, _, _] _
        repeat (go_big_quiet_step (fail))
        refine wpQuiet_nil ?_
        refine writerIn (i := 5) rfl (by kernel_rfl) rfl (fun K hK => ?_)
        refine ⟨fun _ _ => trivial, ?_⟩
        rw [show Fence.wide.round = none from rfl, Oper.semAt_none]
        go_simp
        refine (HK _ _).out.mono ?_
        rintro e w2 ⟨rfl, hb2⟩
        have hs1 : X < WW.heap.size ∧ r < WW.heap.size := ⟨lt_of_heap HBX.out, lt_of_heap HH.out.head⟩
        have h2 : RAt w2 r t T' pg a c ds dn L' := (HH.out.alike (w' := WW.drew) ⟨rfl, rfl, rfl, rfl⟩).below hb2
        have HC1 := hide (C0.out.only (Below.only hb2 (fun _ => False)) (fun u hu => ⟨by rcases HCM.out u hu with e | e <;> rw [e]; exact hs1.2; exact hs1.1, fun f => f⟩))
        have HB1 : Hid (Below WW.heap.size WW w2) := hide (((⟨rfl, rfl, rfl, rfl⟩ : Alike WW WW.drew).below _).trans hb2)
        have HP := hide ((callsIn_wide (n := 9 - 1)).2 (dropYesE w2 t T' L' h2.tree k' k' d v HGE.out (by have := HLl.out; omega)))
        have H2 := hide h2
        refine hK _ _ HC1.out ?_
        clear hK K hb2 h2
        refine writerIn (i := 6) rfl (by kernel_rfl) rfl (fun K hK => ?_)
        refine ⟨fun _ _ => trivial, ?_⟩
        rw [show Fence.wide.round = none from rfl, Oper.semAt_none]
        go_simp
        refine HP.out.mono ?_
        rintro e w3 ⟨rfl, h3⟩
        have hO3 : Only (Ftp t T') w2 w3 := by obtain ⟨_, _, o, _⟩ := h3; exact o
        have hC2 := HC1.out.only hO3 (fun u hu => ⟨by have := HB1.out.size; rcases HCM.out u hu with e | e <;> rw [e] <;> omega, by rcases HCM.out u hu with e | e <;> rw [e]; exact H2.out.out; exact fun f => HBT.out (.inr f)⟩)
        refine hK _ _ hC2 ?_
        clear hK K hC2
        refine doneIn (by kernel_rfl) ⟨by simp, ?_⟩
        obtain ⟨T3, k3, o3, m3⟩ := H2.out.tree' h3
        have hZT' : ¬ RM r t T' Z := fun f => by rcases HM'.out Z f with u | u; exact HZT.out u; omega
        have hX3 : w3.heap[X]? = some (.cells #[.int .i64 p, .int .i64 q] 84 (0, 0)) := ((hO3.block X (Nat.lt_of_lt_of_le hs1.1 HB1.out.size) (fun f => HBT.out (.inr f))).trans (HB1.out.block X hs1.1)).trans HBX.out
        have hZ3 : w3.heap[Z]? = some (.cells #[.int .i64 y, .int .i64 z] 84 (0, 0)) := ((hO3.block Z (Nat.lt_of_lt_of_le (lt_of_heap HZc.out) HB1.out.size) (fun f => hZT' (.inr f))).trans (HB1.out.block Z (lt_of_heap HZc.out))).trans HZc.out
        have HX3 := hide hX3
        have HZ3 := hide hZ3
        have b0 : w3.cell? ⟨X, 0, none⟩ = some (.int .i64 p) := cell_of_heap hX3
        have b1 : w3.cell? ⟨X, 1, none⟩ = some (.int .i64 q) := cell_of_heap hX3
        have a0 : w3.cell? ⟨Z, 0, none⟩ = some (.int .i64 y) := cell_of_heap hZ3
        have a1 : w3.cell? ⟨Z, 1, none⟩ = some (.int .i64 z) := cell_of_heap hZ3
        have af : ∀ o, w3.frozen? ⟨Z, o, none⟩ = false := fun o => frozen_of_heap hZ3
        have HO3 : Hid (Only (fun u => RM r t T u ∨ u = Z) W0 w3) := hide ((HO1.out.trans (Below.only HB1.out _)).thenNew o3 (fun u hu f => by rcases HM'.out u f with e | e; exact .inl e; omega))
        have hw2s : Z + 1 ≤ w2.heap.size := by have := HB1.out.size; have := lt_of_heap HZc.out; omega
        have HM3 : Hid (∀ u, RM r t T3 u → RM r t T u ∨ Z + 1 ≤ u) := hide (fun u f => by rcases m3 u f with e | e; exact HM'.out u e; exact .inr (by omega))
        have HNZ : Hid (¬ RM r t T3 Z) := hide (fun f => by rcases HM3.out Z f with u | u; exact HZT.out u; omega)
        have HK3 := hide k3
        clear h3 hO3 k3 o3 m3 hX3 hZ3 u0 u1 u2 hne hZT'
        have HLd : Hid ((delL k' L').length ≤ 100000) := hide (Nat.le_trans delL_le HLl.out)
        gi_wp2
        have hoz : Only (fun u => u = Z) w3 ((w3.setCell ⟨Z, 0, none⟩ (.int .i64 (min y p))).setCell ⟨Z, 1, none⟩ (.int .i64 (z + q))) := ((Only.refl (fun u => u = Z) w3).setCell (p := ⟨Z, 0, none⟩) (.inl rfl) _).setCell (p := ⟨Z, 1, none⟩) (.inl rfl) _
        have hzz := heap_setCell_at (o := 1) (heap_setCell_at (o := 0) HZ3.out (.int .i64 (min y p))) (.int .i64 (z + q))
        gi_roundg (m - (j + 1))
        case measure => omega
        case rel =>
          refine ⟨j + 1, min y p, z + q, delL k' L', T3, by omega, by first | rfl | simp, by rw [← HJM.out]; exact HY2.out, HL2.out, by have := HST.out; rw [HJM.out] at this; exact this, HK3.out.kept hoz (fun u hu e => ?_), HLd.out, HO3.out.trans (hoz.mono (fun u _ e => .inr e)), HM3.out, hzz⟩
          rcases hu with rfl | hu | hu
          · exact HNZ.out (.inl e.symm)
          · exact HNZ.out (.inr (e ▸ hu))
          · have := HW.out.lt (x := u) (.inr (.inr hu)); omega
end Go.Proofs.Ythcfmpjmgheieaa
