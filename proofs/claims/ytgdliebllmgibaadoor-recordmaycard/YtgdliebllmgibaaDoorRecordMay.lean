/- Whether there is a lay, or a gone, of any arguments is the document's; in no arena, or one of another layout, nothing is done; no machine does nothing; of no arena, and of a page of no span, nothing is read: the law RecordMay answers true at every input, the listed table of package class being as it is. -/
import Derived.Test.YtgdliebllmgibaaDoorRecIdle
import Derived.Test.YtgdliebllmgibaaDoorRecAwake
import Derived.Test.YtgdliebllmgibaaDoorRecRight
import Derived.Test.YtgdliebllmgibaaDoorLayOpen
import Derived.Test.YtgdliebllmgibaaDoorLaidK
namespace Go.Proofs.YtgdliebllmgibaaDoor.recordMay
open Go.ChangeShapes Go.WideShapes Go.ChangeAt Go.RowKit

def layO (P T : Int) : Obj := .cells #[.int .i64 P, .int .i64 T] 24 (0, 0)
/-- What lies on the way: the law's layout, its machine's argument. -/
structure On (bl bx : Nat) (P T : Int) (cs : Array Value) (w0 w : World) : Prop where
  lay : w.heap[bl]? = some (layO P T)
  x : w.heap[bx]? = some (.cells cs 38 (0, 0))
  below : Below w0.heap.size w0 w
theorem On.grow {bl bx : Nat} {P T : Int} {cs : Array Value} {w0 w w' : World} (h : On bl bx P T cs w0 w) (b : Below w.heap.size w w') : On bl bx P T cs w0 w' :=
  ⟨(b.block _ (lt_of_heap h.lay)).trans h.lay, (b.block _ (lt_of_heap h.x)).trans h.x, h.below.trans (b.mono h.below.size)⟩
/-- A lay that has not begun, of some pages. -/
def SomeLay (P T : Int) (m : Nat) (w : World) : Prop := ∃ (pg n bs al st : Nat), w.heap[m]? = some (layM P T (pg : Int) (n : Int) 0 bs al st) ∧ 1 ≤ P ∧ 1 ≤ n ∧ n ≤ 4096 ∧ pg ≤ 4096
def SomeGone (P T : Int) (m : Nat) (w : World) : Prop := ∃ (pg n : Nat), w.heap[m]? = some (goneM P T (pg : Int) (n : Int) 0) ∧ 1 ≤ P ∧ 1 ≤ n ∧ n ≤ 4096 ∧ pg ≤ 4096
theorem SomeLay.below {P T : Int} {m : Nat} {w w' : World} (h : SomeLay P T m w) (b : Below w.heap.size w w') : SomeLay P T m w' := by
  obtain ⟨pg, n, bs, al, st, h, r⟩ := h
  exact ⟨pg, n, bs, al, st, (b.block _ (lt_of_heap h)).trans h, r⟩
theorem SomeGone.below {P T : Int} {m : Nat} {w w' : World} (h : SomeGone P T m w) (b : Below w.heap.size w w') : SomeGone P T m w' := by
  obtain ⟨pg, n, h, r⟩ := h
  exact ⟨pg, n, (b.block _ (lt_of_heap h)).trans h, r⟩
theorem SomeLay.idle {P T : Int} {m : Nat} {w : World} (h : SomeLay P T m w) {q p r l : Nat} {P' T' : Int} (ka : ArAt q P' T' p r l w) (hne : P' ≠ P ∨ T' ≠ T) : IdleLay q (.pointer (some ⟨m, 0, none⟩)) w := by
  obtain ⟨pg, n, bs, al, st, h, r1, r2, r3, r4⟩ := h
  exact layNewIdle P T pg n bs al st h r1 r2 r3 r4 ka hne
theorem SomeGone.idle {P T : Int} {m : Nat} {w : World} (h : SomeGone P T m w) {q p r l : Nat} {P' T' : Int} (ka : ArAt q P' T' p r l w) (hne : P' ≠ P ∨ T' ≠ T) : IdleGone q (.pointer (some ⟨m, 0, none⟩)) w := by
  obtain ⟨pg, n, h, r1, r2, r3, r4⟩ := h
  exact goneNewIdle P T pg n h r1 r2 r3 r4 ka hne
theorem newLy (P T pg c n g : Int) (al : Nat) (hpg : pg ≤ 9223372036854775807) (u : World) (hT : ClsTab u) : Calls Tryd.prog 8 #[.agg #[.int .i64 P, .int .i64 T], .int .i64 pg, .int .i64 c, .int .i64 n, .int .i64 g, .int .u64 (al : Int)] u fun e w' => ∃ pa : Option Addr, e = .returned (.pointer pa) ∧ pa.isSome = mayLay P T pg c n g al ∧ (pa = none ∨ ∃ m : Nat, pa = some ⟨m, 0, none⟩ ∧ SomeLay P T m w') ∧ Below u.heap.size u w' := by
  cases h : mayLay P T pg c n g al
  · exact (newLayNo P T pg c n g al hpg h u hT).mono fun _ _ ⟨h1, h2⟩ => ⟨none, h1, rfl, .inl rfl, h2⟩
  · refine (newLayYes P T pg c n g al hpg h u hT).mono fun _ _ ⟨m, h1, h2, _, h3⟩ => ⟨_, h1, rfl, .inr ⟨m, rfl, ?_⟩, h3⟩
    unfold mayLay at h
    simp only [Bool.and_eq_true] at h
    obtain ⟨a1, a2, a3, a4⟩ := hasPg_iff.1 h.1.2
    obtain ⟨m1, m2, m3, m4⟩ := Lay.may_iff.1 a1
    refine ⟨pg.toNat, n.toNat, (256 * n + c).toNat, al, Ph.state g 2, ?_, m1, by omega, by omega, by omega⟩
    rw [show ((pg.toNat : Nat) : Int) = pg by omega, show ((n.toNat : Nat) : Int) = n by omega]
    exact h2
theorem newGn (P T pg n : Int) (hpg : pg ≤ 9223372036854775807) (u : World) : Calls Tryd.prog 9 #[.agg #[.int .i64 P, .int .i64 T], .int .i64 pg, .int .i64 n] u fun e w' => ∃ pa : Option Addr, e = .returned (.pointer pa) ∧ pa.isSome = hasPg P T pg n ∧ (pa = none ∨ ∃ m : Nat, pa = some ⟨m, 0, none⟩ ∧ SomeGone P T m w') ∧ Below u.heap.size u w' := by
  cases h : hasPg P T pg n
  · exact (newGoneNo P T pg n hpg h u).mono fun _ _ ⟨h1, h2⟩ => ⟨none, h1, rfl, .inl rfl, h2⟩
  · refine (newGoneYes P T pg n hpg h u).mono fun _ _ ⟨m, h1, h2, _, h3⟩ => ⟨_, h1, rfl, .inr ⟨m, rfl, ?_⟩, h3⟩
    obtain ⟨a1, a2, a3, a4⟩ := hasPg_iff.1 h
    obtain ⟨m1, m2, m3, m4⟩ := Lay.may_iff.1 a1
    refine ⟨pg.toNat, n.toNat, ?_, m1, by omega, by omega, by omega⟩
    rw [show ((pg.toNat : Nat) : Int) = pg by omega, show ((n.toNat : Nat) : Int) = n by omega]
    exact h2
theorem buildX (P T pg c n g : Int) (al : Nat) (u : World) : (Instr.build 38 #[(0, .int .i64 5), (1, .agg #[.int .i64 P, .int .i64 T]), (3, .int .i64 pg), (4, .int .i64 c), (5, .int .i64 n), (6, .int .i64 g), (10, .int .u64 (al : Int))]).run Tryd.prog u = .ok (.agg #[.int .i64 5, .int .i64 P, .int .i64 T, .int .i64 0, .int .i64 pg, .int .i64 c, .int .i64 n, .int .i64 g, .int .i64 0, .int .i64 0, .int .i64 0, .int .u64 (al : Int), .bool false, .slice none 0 0, .slice none 0 0, .bool false, .int .i64 0, .bool false, .pointer none, .int .i64 0, .int .i64 0, .int .u64 0, .int .u64 0, .int .i64 0, .int .i64 0, .int .i64 0, .int .i64 0, .int .u64 0, .slice none 0 0, .slice none 0 0, .int .i64 0, .int .i64 0]) u := run_build u _ _ _ (by kernel_rfl)
theorem first_read (pg : Int) : Rec.read (St.first (Lay.words ((3 : Nat) : Int) 2).toNat).words 3 2 pg = (Rec.Sp.zero, false) := by
  have h : Rec.tol (St.first (Lay.words ((3 : Nat) : Int) 2).toNat).words 3 2 9 pg = 0 := by
    by_cases hp : 0 ≤ pg ∧ pg < 3
    · obtain ⟨k, rfl⟩ : ∃ k : Nat, pg = (k : Int) := ⟨pg.toNat, by omega⟩
      have hk : k = 0 ∨ k = 1 ∨ k = 2 := by omega
      rcases hk with rfl | rfl | rfl <;> decide
    · exact Rec.tol_off (by omega)
  unfold Rec.read
  rw [if_pos h]
structure OnL (bl : Nat) (P T : Int) (w0 w : World) : Prop where
  lay : w.heap[bl]? = some (layO P T)
  below : Below w0.heap.size w0 w
theorem OnL.grow {bl : Nat} {P T : Int} {w0 w w' : World} (h : OnL bl P T w0 w) (b : Below w.heap.size w w') : OnL bl P T w0 w' :=
  ⟨(b.block _ (lt_of_heap h.lay)).trans h.lay, h.below.trans (b.mono h.below.size)⟩
theorem block_setCell {w : World} {b : Nat} {p : Addr} {o : Obj} (hne : b ≠ p.block) (v : Value) (h : w.heap[b]? = some o) : (w.setCell p v).heap[b]? = some o :=
  (((Only.refl (fun k => k = p.block) w).setCell (.inl rfl) v).block b (lt_of_heap h) hne).trans h
theorem firstRd (pg : Int) (R : Res) (w0 u : World) (q p r : Nat) (ds : List Nat) (dn : Nat) (L : RL) (h : Own (Sep (AX q 3 2 p r (St.first (Lay.words ((3 : Nat) : Int) 2).toNat) 3 ds dn L) R) w0 u) :
    Calls Tryd.prog 10 #[.pointer (some ⟨q, 0, none⟩), .int .i64 pg] u fun e w' => e = .returned (.tuple #[spanV Rec.Sp.zero, .bool false]) ∧ Below u.heap.size u w' :=
  readA (ArW.of h) (by decide) pg _ _ (first_read pg)

set_option maxRecDepth 100000 in
set_option maxHeartbeats 16000000 in
theorem main0 (P T : Int) (pg : Int) (hpg : -9223372036854775808 ≤ pg ∧ pg ≤ 9223372036854775807) (c n g : Int) (al : Nat) (hne : P ≠ 3 ∨ T ≠ 2) (w : World) (hCT : ClsTab w) :
    Calls Tryd.prog 5 #[.agg #[.int .i64 P, .int .i64 T], .int .i64 pg, .int .i64 c, .int .i64 n, .int .i64 g, .int .u64 (al : Int)] w fun e w' => e = .returned (.bool true) ∧ Below w.heap.size w w' := by
  have NP := hide (fun u (hu : Below w.heap.size w u) => newLy P T pg c n g al hpg.2 u (hCT.grown hu))
  have NQ := hide (fun u => newGn P T pg n hpg.2 u)
  have RP := hide (fun u => rightLay P T pg c n g al hpg u)
  have RQ := hide (fun u => rightGone P T pg c n g al hpg u)
  have HA1 := hide (fun (R : Res) (w0 u : World) (l : Loc R) (ho : Own R w0 u) => @anew R w0 u l ho 3 2 (by decide) [] (by simp) none 0 (fun _ => ⟨rfl, rfl⟩) (fun h => absurd rfl h))
  have HAW := hide (fun u (hu : Below w.heap.size w u) => awake14 u (hCT.grown hu))
  have HRN := hide (fun u => readNil pg u)
  have HRA := hide (firstRd pg)
  have hc3 : (St.first (Lay.words ((3 : Nat) : Int) 2).toNat).count = 0 := rfl
  have HC3 := hide hc3
  clear hc3 hCT hpg
  generalize St.first (Lay.words ((3 : Nat) : Int) 2).toNat = s0 at *
  rw [show ((3 : Nat) : Int) = 3 from rfl, List.length_nil] at HA1
  generalize ([(kOf 0 (3 : Nat), ([] : List Nat).getD 0 0, ())] : RL) = rl at *
  unfold mIn at RP RQ
  generalize hmt : mayLay P T pg c n g al = mt at *
  generalize hml : hasPg P T pg n = ml at *
  clear hmt hml
  have bf := buildX P T pg c n g al
  have hz : (w.alloc (.cells #[.int .i64 P, .int .i64 T] 24)).heap.size = w.heap.size + 1 := by simp
  have hgx : Hid (((w.alloc (.cells #[.int .i64 P, .int .i64 T] 24)).alloc (.cells #[.int .i64 0, .int .i64 0, .int .i64 0, .int .i64 0, .int .i64 0, .int .i64 0, .int .i64 0, .int .i64 0, .int .i64 0, .int .i64 0, .int .i64 0, .int .u64 0, .bool false, .slice none 0 0, .slice none 0 0, .bool false, .int .i64 0, .bool false, .pointer none, .int .i64 0, .int .i64 0, .int .u64 0, .int .u64 0, .int .i64 0, .int .i64 0, .int .i64 0, .int .i64 0, .int .u64 0, .slice none 0 0, .slice none 0 0, .int .i64 0, .int .i64 0] 38)).heap[w.heap.size + 1]? = some (.cells #[.int .i64 0, .int .i64 0, .int .i64 0, .int .i64 0, .int .i64 0, .int .i64 0, .int .i64 0, .int .i64 0, .int .i64 0, .int .i64 0, .int .i64 0, .int .u64 0, .bool false, .slice none 0 0, .slice none 0 0, .bool false, .int .i64 0, .bool false, .pointer none, .int .i64 0, .int .i64 0, .int .u64 0, .int .u64 0, .int .i64 0, .int .i64 0, .int .i64 0, .int .i64 0, .int .u64 0, .slice none 0 0, .slice none 0 0, .int .i64 0, .int .i64 0] 38 (0, 0))) := hide (by rw [← hz]; exact heap_alloc_last _ _)
  have hse : Hid (((w.alloc (.cells #[.int .i64 P, .int .i64 T] 24)).alloc (.cells #[.int .i64 0, .int .i64 0, .int .i64 0, .int .i64 0, .int .i64 0, .int .i64 0, .int .i64 0, .int .i64 0, .int .i64 0, .int .i64 0, .int .i64 0, .int .u64 0, .bool false, .slice none 0 0, .slice none 0 0, .bool false, .int .i64 0, .bool false, .pointer none, .int .i64 0, .int .i64 0, .int .u64 0, .int .u64 0, .int .i64 0, .int .i64 0, .int .i64 0, .int .i64 0, .int .u64 0, .slice none 0 0, .slice none 0 0, .int .i64 0, .int .i64 0] 38)).setRow (w.heap.size + 1) #[.int .i64 5, .int .i64 P, .int .i64 T, .int .i64 0, .int .i64 pg, .int .i64 c, .int .i64 n, .int .i64 g, .int .i64 0, .int .i64 0, .int .i64 0, .int .u64 (al : Int), .bool false, .slice none 0 0, .slice none 0 0, .bool false, .int .i64 0, .bool false, .pointer none, .int .i64 0, .int .i64 0, .int .u64 0, .int .u64 0, .int .i64 0, .int .i64 0, .int .i64 0, .int .i64 0, .int .u64 0, .slice none 0 0, .slice none 0 0, .int .i64 0, .int .i64 0] = ((w.alloc (.cells #[.int .i64 P, .int .i64 T] 24)).alloc (.cells #[.int .i64 5, .int .i64 P, .int .i64 T, .int .i64 0, .int .i64 pg, .int .i64 c, .int .i64 n, .int .i64 g, .int .i64 0, .int .i64 0, .int .i64 0, .int .u64 (al : Int), .bool false, .slice none 0 0, .slice none 0 0, .bool false, .int .i64 0, .bool false, .pointer none, .int .i64 0, .int .i64 0, .int .u64 0, .int .u64 0, .int .i64 0, .int .i64 0, .int .i64 0, .int .i64 0, .int .u64 0, .slice none 0 0, .slice none 0 0, .int .i64 0, .int .i64 0] 38))) := hide (by rw [← hz]; exact World.setRow_alloc_new _ _ _ _)
  have O1 : Hid (On w.heap.size (w.heap.size + 1) P T #[.int .i64 5, .int .i64 P, .int .i64 T, .int .i64 0, .int .i64 pg, .int .i64 c, .int .i64 n, .int .i64 g, .int .i64 0, .int .i64 0, .int .i64 0, .int .u64 (al : Int), .bool false, .slice none 0 0, .slice none 0 0, .bool false, .int .i64 0, .bool false, .pointer none, .int .i64 0, .int .i64 0, .int .u64 0, .int .u64 0, .int .i64 0, .int .i64 0, .int .i64 0, .int .i64 0, .int .u64 0, .slice none 0 0, .slice none 0 0, .int .i64 0, .int .i64 0] w ((w.alloc (.cells #[.int .i64 P, .int .i64 T] 24)).alloc (.cells #[.int .i64 5, .int .i64 P, .int .i64 T, .int .i64 0, .int .i64 pg, .int .i64 c, .int .i64 n, .int .i64 g, .int .i64 0, .int .i64 0, .int .i64 0, .int .u64 (al : Int), .bool false, .slice none 0 0, .slice none 0 0, .bool false, .int .i64 0, .bool false, .pointer none, .int .i64 0, .int .i64 0, .int .u64 0, .int .u64 0, .int .i64 0, .int .i64 0, .int .i64 0, .int .i64 0, .int .u64 0, .slice none 0 0, .slice none 0 0, .int .i64 0, .int .i64 0] 38))) := hide ⟨heap_alloc_old (heap_alloc_at _ _), by rw [← hz]; exact heap_alloc_at _ _, (grown1 _ _).trans ((grown1 _ _).mono (by simp))⟩
  clear hz
  go_enter Tryd.func5, Tryd.ntmps5
  go_wp2_with (first
    | fail
    | (refine wpList_store_row rfl 38 _ _ rfl _ _ rfl rfl _ _ hgx.out (by kernel_rfl) rfl (by kernel_rfl) ?_
       rw [hse.out]
       generalize ((w.alloc (.cells #[.int .i64 P, .int .i64 T] 24)).alloc (.cells #[.int .i64 5, .int .i64 P, .int .i64 T, .int .i64 0, .int .i64 pg, .int .i64 c, .int .i64 n, .int .i64 g, .int .i64 0, .int .i64 0, .int .i64 0, .int .u64 (al : Int), .bool false, .slice none 0 0, .slice none 0 0, .bool false, .int .i64 0, .bool false, .pointer none, .int .i64 0, .int .i64 0, .int .u64 0, .int .u64 0, .int .i64 0, .int .i64 0, .int .i64 0, .int .i64 0, .int .u64 0, .slice none 0 0, .slice none 0 0, .int .i64 0, .int .i64 0] 38)) = w1 at *
       clear hgx hse bf))
  obtain ⟨bl, hbl⟩ : ∃ bl, w.heap.size = bl := ⟨_, rfl⟩
  have HBL := hide hbl
  rw [hbl] at O1
  rw [hbl]
  clear hbl
  obtain ⟨cs5, hcs5⟩ : ∃ cs : Array Value, #[.int .i64 5, .int .i64 P, .int .i64 T, .int .i64 0, .int .i64 pg, .int .i64 c, .int .i64 n, .int .i64 g, .int .i64 0, .int .i64 0, .int .i64 0, .int .u64 (al : Int), .bool false, .slice none 0 0, .slice none 0 0, .bool false, .int .i64 0, .bool false, .pointer none, .int .i64 0, .int .i64 0, .int .u64 0, .int .u64 0, .int .i64 0, .int .i64 0, .int .i64 0, .int .i64 0, .int .u64 0, .slice none 0 0, .slice none 0 0, .int .i64 0, .int .i64 0] = cs := ⟨_, rfl⟩
  rw [hcs5] at O1
  have HCS := hide hcs5
  clear hcs5
  have J1 := hide (O1.out.grow ((Alike.drewN w1 1).below _))
  have hne0 : Nonempty (Mem (On bl (bl + 1) P T cs5 w)) := ⟨⟨_, J1.out⟩⟩
  have U0 : ∀ u : Mem (On bl (bl + 1) P T cs5 w), u.w'.cell? ⟨bl, 0, none⟩ = some (.int .i64 P) := fun u => cell_of_heap u.h.lay
  have U1 : ∀ u : Mem (On bl (bl + 1) P T cs5 w), u.w'.cell? ⟨bl, 1, none⟩ = some (.int .i64 T) := fun u => cell_of_heap u.h.lay
  simp only [Act.put]
  refine region_start (J := On bl (bl + 1) P T cs5 w) (by kernel_rfl) ?_
  refine stretch (fuel := 4) (by kernel_rfl) (fun _ _ _ _ _ h => h) J1.out [0, 1, 2, 3, 4, 5, 7, 8, 9] (by kernel_rfl) ?_
  simp only [List.filterMap_cons, List.filterMap_nil, List.getElem?_toArray, List.getElem?_cons_zero, List.getElem?_cons_succ]
  show wpQuiet _ _ _ _ [_, _, _, _, _, _, _, _, _] _
  repeat (go_big_quiet_step (fail))
  refine wpQuiet_nil ?_
  refine wpAnyJ_writer (i := 6) rfl (by kernel_rfl) (fun K' hK => ?_)
  go_simp
  refine (NP.out _ J1.out.below).mono ?_
  rintro e w2 ⟨pa, rfl, ha1, ha2, b2⟩
  have J2 := hide (J1.out.grow b2)
  have HPA := hide ha2
  refine hK _ _ J2.out ?_
  clear hK K' J1 O1 ha2 b2
  refine wpAnyJ_writer (i := 10) rfl (by kernel_rfl) (fun K' hK => ?_)
  go_simp
  refine (NQ.out _).mono ?_
  rintro e w3 ⟨pb, rfl, hb1, hb2, b3⟩
  have J3 := hide (J2.out.grow b3)
  have HPB := hide hb2
  have HPA3 : Hid (pa = none ∨ ∃ m : Nat, pa = some ⟨m, 0, none⟩ ∧ SomeLay P T m w3) := hide (HPA.out.imp id (fun ⟨m, h1, h2⟩ => ⟨m, h1, h2.below b3⟩))
  refine hK _ _ J3.out ?_
  clear hK K' b3 J2 NP NQ hb2 HPA
  refine stretch (fuel := 0) (by kernel_rfl) (fun _ _ _ _ _ h => h) J3.out [11, 12] (by kernel_rfl) ?_
  simp only [List.filterMap_cons, List.filterMap_nil, List.getElem?_toArray, List.getElem?_cons_zero, List.getElem?_cons_succ]
  show wpQuiet _ _ _ _ [_, _] _
  repeat (go_big_quiet_step (fail))
  refine wpQuiet_nil ?_
  refine wpAnyJ_done (by kernel_rfl) ?_
  clear U0 U1 hne0
  have J3' : Hid (On bl (bl + 1) P T #[.int .i64 5, .int .i64 P, .int .i64 T, .int .i64 0, .int .i64 pg, .int .i64 c, .int .i64 n, .int .i64 g, .int .i64 0, .int .i64 0, .int .i64 0, .int .u64 (al : Int), .bool false, .slice none 0 0, .slice none 0 0, .bool false, .int .i64 0, .bool false, .pointer none, .int .i64 0, .int .i64 0, .int .u64 0, .int .u64 0, .int .i64 0, .int .i64 0, .int .i64 0, .int .i64 0, .int .u64 0, .slice none 0 0, .slice none 0 0, .int .i64 0, .int .i64 0] w w3) := hide (by rw [HCS.out]; exact J3.out)
  clear J3
  go_wp2_with (first | fail | (refine wpList_load_row rfl 38 _ rfl _ rfl 38 #[.int .i64 5, .int .i64 P, .int .i64 T, .int .i64 0, .int .i64 pg, .int .i64 c, .int .i64 n, .int .i64 g, .int .i64 0, .int .i64 0, .int .i64 0, .int .u64 (al : Int), .bool false, .slice none 0 0, .slice none 0 0, .bool false, .int .i64 0, .bool false, .pointer none, .int .i64 0, .int .i64 0, .int .u64 0, .int .u64 0, .int .i64 0, .int .i64 0, .int .i64 0, .int .i64 0, .int .u64 0, .slice none 0 0, .slice none 0 0, .int .i64 0, .int .i64 0] (0, 0) _ (show _ from J3'.out.x) Tryd.underlying38 rfl (by kernel_rfl) ?_))
  refine (RP.out _).mono ?_
  rintro e w4 ⟨rfl, b4⟩
  have J4 := hide (J3'.out.grow b4)
  clear J3'
  have x0 : w4.cell? ⟨bl + 1, 0, none⟩ = some (.int .i64 5) := cell_of_heap J4.out.x
  have fx : ∀ o, w4.frozen? ⟨bl + 1, o, none⟩ = false := fun o => frozen_of_heap J4.out.x
  have hbx : w.heap.size ≤ bl + 1 := by rw [HBL.out]; omega
  have J4' : Hid (On bl (bl + 1) P T #[.int .i64 6, .int .i64 P, .int .i64 T, .int .i64 0, .int .i64 pg, .int .i64 c, .int .i64 n, .int .i64 g, .int .i64 0, .int .i64 0, .int .i64 0, .int .u64 (al : Int), .bool false, .slice none 0 0, .slice none 0 0, .bool false, .int .i64 0, .bool false, .pointer none, .int .i64 0, .int .i64 0, .int .u64 0, .int .u64 0, .int .i64 0, .int .i64 0, .int .i64 0, .int .i64 0, .int .u64 0, .slice none 0 0, .slice none 0 0, .int .i64 0, .int .i64 0] w (w4.setCell ⟨bl + 1, 0, none⟩ (.int .i64 6))) := hide ⟨block_setCell (p := ⟨bl + 1, 0, none⟩) (show bl ≠ bl + 1 by omega) _ J4.out.lay, heap_setCell_at J4.out.x _, J4.out.below.setCell (p := ⟨bl + 1, 0, none⟩) hbx _⟩
  have HPA4 : Hid (pa = none ∨ ∃ m : Nat, pa = some ⟨m, 0, none⟩ ∧ SomeLay P T m (w4.setCell ⟨bl + 1, 0, none⟩ (.int .i64 6))) := hide (HPA3.out.imp id (fun ⟨m, h1, h2⟩ => ⟨m, h1, by obtain ⟨a1, a2, a3, a4, a5, h, r⟩ := h2.below b4; exact ⟨a1, a2, a3, a4, a5, block_setCell (p := ⟨bl + 1, 0, none⟩) (fun e => by have e : m = bl + 1 := e; subst e; rw [J4.out.x] at h; simp [layM] at h) _ h, r⟩⟩))
  have HPB4 : Hid (pb = none ∨ ∃ m : Nat, pb = some ⟨m, 0, none⟩ ∧ SomeGone P T m (w4.setCell ⟨bl + 1, 0, none⟩ (.int .i64 6))) := hide (HPB.out.imp id (fun ⟨m, h1, h2⟩ => ⟨m, h1, by obtain ⟨a1, a2, h, r⟩ := h2.below b4; exact ⟨a1, a2, block_setCell (p := ⟨bl + 1, 0, none⟩) (fun e => by have e : m = bl + 1 := e; subst e; rw [J4.out.x] at h; simp [goneM] at h) _ h, r⟩⟩))
  clear b4 J4 HPA3 HPB RP
  go_wp2_with (first | fail | (clear x0 fx; generalize w4.setCell ⟨bl + 1, 0, none⟩ (.int .i64 6) = w4b at *; (refine wpList_load_row rfl 38 _ rfl _ rfl 38 #[.int .i64 6, .int .i64 P, .int .i64 T, .int .i64 0, .int .i64 pg, .int .i64 c, .int .i64 n, .int .i64 g, .int .i64 0, .int .i64 0, .int .i64 0, .int .u64 (al : Int), .bool false, .slice none 0 0, .slice none 0 0, .bool false, .int .i64 0, .bool false, .pointer none, .int .i64 0, .int .i64 0, .int .u64 0, .int .u64 0, .int .i64 0, .int .i64 0, .int .i64 0, .int .i64 0, .int .u64 0, .slice none 0 0, .slice none 0 0, .int .i64 0, .int .i64 0] (0, 0) _ (show _ from J4'.out.x) Tryd.underlying38 rfl (by kernel_rfl) ?_)))
  refine (RQ.out _).mono ?_
  rintro e w5 ⟨rfl, b5⟩
  have J5 : Hid (OnL bl P T w w5) := hide ⟨(J4'.out.grow b5).lay, (J4'.out.grow b5).below⟩
  have HB35 := hide b5
  have BEH5 := hide J5.out.below
  clear b5 J4' RQ
  go_wp2_with fail
  refine (HA1.out _ _ _ Loc.nought (Own.start w5)).mono ?_
  rintro e w6 ⟨qa, ra', rr, rfl, o6⟩
  have O6 := hide o6
  have HB56 := hide o6.back
  have J6 := hide (J5.out.grow o6.back)
  have lO : Loc (Sep (AX qa 3 2 ra' rr s0 3 [] 1 rl) Nought) := Loc.ax.sep Loc.nought
  clear o6 J5 HA1
  clear ha1 hb1
  go_wp2
  have hne0 : Nonempty (Over w6) := ⟨⟨_, Below.refl _ _⟩⟩
  have u0 := fun u => over_cell (show w6.cell? ⟨bl, 0, none⟩ = some (.int .i64 P) from cell_of_heap J6.out.lay) u
  have u1 := fun u => over_cell (show w6.cell? ⟨bl, 1, none⟩ = some (.int .i64 T) from cell_of_heap J6.out.lay) u
  have LA := fun u : Over w6 => hide (layoutX (O6.out.below lO u.h))
  by_cases hP3 : P = 3
  · have dT : (T == 2) = false := by rw [beq_eq_false_iff_ne]; omega
    have dP3 : (P == 3) = true := by simp [hP3]
    refine over_region (by kernel_rfl) (by kernel_rfl) ?_
    repeat (go_big_quiet_step (first | (go_at_call 25; exact over_call _ (LA _).out)))
    refine wpQuiet_nil ?_
    rintro _ ⟨u7, rfl⟩
    have O7 := hide (O6.out.below lO u7.h)
    have J7 := hide (J6.out.grow u7.h)
    have HB37 := hide (HB35.out.trans ((HB56.out.trans (u7.h.mono HB56.out.size)).mono HB35.out.size))
    have IP : Hid (IdleLay qa (.pointer pa) u7.w') := hide (by
      rcases HPA4.out with rfl | ⟨m, rfl, hm⟩
      · exact layNilIdle qa _
      · exact (hm.below HB37.out).idle (ArAt.of O7.out) (by omega))
    have IQ : Hid (IdleGone qa (.pointer pb) u7.w') := hide (by
      rcases HPB4.out with rfl | ⟨m, rfl, hm⟩
      · exact goneNilIdle qa _
      · exact (hm.below HB37.out).idle (ArAt.of O7.out) (by omega))
    clear u0 u1 LA hne0 O6 J6 HB37
    generalize u7.w' = w7 at *
    have BEH : Hid (∀ u, Below w5.heap.size w5 u → Below w.heap.size w u) := hide (fun u hu => BEH5.out.trans (hu.mono BEH5.out.size))
    go_wp2
    have Z8 := heap_alloc_at w7 (.cells #[.int .i64 0, .int .i64 0, .int .u64 0, .int .u64 0] 34)
    have B8 := grown1 w7 (.cells #[.int .i64 0, .int .i64 0, .int .u64 0, .int .u64 0] 34)
    have IP8 := hide (IP.out.grow B8)
    have IQ8 := hide (IQ.out.grow B8)
    have O8 := hide (O7.out.below lO B8)
    clear IP IQ O7 J7 B8
    generalize w7.alloc (.cells #[.int .i64 0, .int .i64 0, .int .u64 0, .int .u64 0] 34) = w8 at *
    generalize w7.heap.size = bd at *
    have hne0 : Nonempty (Over w8) := ⟨⟨_, Below.refl _ _⟩⟩
    have v0 := fun u => over_cell (show w8.cell? ⟨bd, 0, none⟩ = some (.int .i64 0) from cell_of_heap Z8) u
    have v1 := fun u => over_cell (show w8.cell? ⟨bd, 1, none⟩ = some (.int .i64 0) from cell_of_heap Z8) u
    have v2 := fun u => over_cell (show w8.cell? ⟨bd, 2, none⟩ = some (.int .u64 0) from cell_of_heap Z8) u
    have v3 := fun u => over_cell (show w8.cell? ⟨bd, 3, none⟩ = some (.int .u64 0) from cell_of_heap Z8) u
    have SP := fun (u : Over w8) (qa' : Option Addr) (hq : HandQ qa qa') => IP8.out.step qa' hq u.w' u.h
    have SQ := fun (u : Over w8) (qa' : Option Addr) (hq : HandQ qa qa') => IQ8.out.step qa' hq u.w' u.h
    unfold noDid at SP SQ
    have HSP := hide SP
    have HSQ := hide SQ
    have DP := fun u : Over w8 => hide (IP8.out.done u.w' u.h)
    have DQ := fun u : Over w8 => hide (IQ8.out.done u.w' u.h)
    clear SP SQ
    refine over_region (by kernel_rfl) (by kernel_rfl) ?_
    repeat (go_big_quiet_step (first | (go_at_call 12; exact over_call _ (HSP.out _ _ (by simp [HandQ]))) | (go_at_call 17; exact over_call _ (HSQ.out _ _ (by simp [HandQ]))) | (go_at_call 11; exact over_call _ (DP _).out) | (go_at_call 16; exact over_call _ (DQ _).out)))
    refine wpQuiet_nil ?_
    rintro _ ⟨u9, rfl⟩
    have O9 := hide (O8.out.below lO u9.h)
    clear v0 v1 v2 v3 HSP HSQ DP DQ IP8 IQ8 hne0 O8 Z8
    generalize u9.w' = w9 at *
    go_wp2_with fail
    refine (HRN.out _).mono ?_
    rintro e w10 ⟨rfl, b10⟩
    have O10 := hide ((O9.out.below lO b10).below lO (grown1 w10 (.cells #[.int .i64 0, .int .i64 0, .int .i64 0, .int .i64 0, .int .i64 0, .int .u64 0, .int .u64 0] 45)))
    clear b10 O9 HRN
    unfold spanV spanC Rec.Sp.zero
    go_wp2_with fail
    generalize w10.alloc (.cells #[.int .i64 0, .int .i64 0, .int .i64 0, .int .i64 0, .int .i64 0, .int .u64 0, .int .u64 0] 45) = w11 at *
    refine (HRA.out _ _ _ _ _ _ _ _ _ O10.out).mono ?_
    rintro e w12 ⟨rfl, b12⟩
    have O12 := hide ((O10.out.below lO b12).below lO (grown1 w12 (.cells #[.int .i64 0, .int .i64 0, .int .i64 0, .int .i64 0, .int .i64 0, .int .u64 0, .int .u64 0] 45)))
    clear b12 O10 HRA
    unfold spanV spanC Rec.Sp.zero
    go_wp2_with fail
    generalize w12.alloc (.cells #[.int .i64 0, .int .i64 0, .int .i64 0, .int .i64 0, .int .i64 0, .int .u64 0, .int .u64 0] 45) = w13 at *
    refine (recListNil _).mono ?_
    rintro e w14 ⟨rfl, b14⟩
    have O14 := hide (O12.out.below lO b14)
    clear b14 O12
    go_wp2_with fail
    refine (storeX O14.out).mono ?_
    rintro e w15 ⟨rfl, rfl⟩
    go_wp2_with fail
    refine (countX O14.out).mono ?_
    rintro e w15 ⟨rfl, rfl⟩
    rw [HC3.out]
    go_wp2_with fail
    have HB14 := hide (BEH.out _ O14.out.back)
    clear O14
    refine (HAW.out _ HB14.out).mono ?_
    rintro e w16 ⟨rfl, b16⟩
    have HB16 := hide (HB14.out.trans (b16.mono HB14.out.size))
    clear b16 HB14
    go_wp2
    go_ret
    exact ⟨rfl, HB16.out⟩
  · have dP : (P == 3) = false := by rw [beq_eq_false_iff_ne]; omega
    refine over_region (by kernel_rfl) (by kernel_rfl) ?_
    repeat (go_big_quiet_step (first | (go_at_call 25; exact over_call _ (LA _).out)))
    refine wpQuiet_nil ?_
    rintro _ ⟨u7, rfl⟩
    have O7 := hide (O6.out.below lO u7.h)
    have J7 := hide (J6.out.grow u7.h)
    have HB37 := hide (HB35.out.trans ((HB56.out.trans (u7.h.mono HB56.out.size)).mono HB35.out.size))
    have IP : Hid (IdleLay qa (.pointer pa) u7.w') := hide (by
      rcases HPA4.out with rfl | ⟨m, rfl, hm⟩
      · exact layNilIdle qa _
      · exact (hm.below HB37.out).idle (ArAt.of O7.out) (by omega))
    have IQ : Hid (IdleGone qa (.pointer pb) u7.w') := hide (by
      rcases HPB4.out with rfl | ⟨m, rfl, hm⟩
      · exact goneNilIdle qa _
      · exact (hm.below HB37.out).idle (ArAt.of O7.out) (by omega))
    clear u0 u1 LA hne0 O6 J6 HB37
    generalize u7.w' = w7 at *
    have BEH : Hid (∀ u, Below w5.heap.size w5 u → Below w.heap.size w u) := hide (fun u hu => BEH5.out.trans (hu.mono BEH5.out.size))
    go_wp2
    have Z8 := heap_alloc_at w7 (.cells #[.int .i64 0, .int .i64 0, .int .u64 0, .int .u64 0] 34)
    have B8 := grown1 w7 (.cells #[.int .i64 0, .int .i64 0, .int .u64 0, .int .u64 0] 34)
    have IP8 := hide (IP.out.grow B8)
    have IQ8 := hide (IQ.out.grow B8)
    have O8 := hide (O7.out.below lO B8)
    clear IP IQ O7 J7 B8
    generalize w7.alloc (.cells #[.int .i64 0, .int .i64 0, .int .u64 0, .int .u64 0] 34) = w8 at *
    generalize w7.heap.size = bd at *
    have hne0 : Nonempty (Over w8) := ⟨⟨_, Below.refl _ _⟩⟩
    have v0 := fun u => over_cell (show w8.cell? ⟨bd, 0, none⟩ = some (.int .i64 0) from cell_of_heap Z8) u
    have v1 := fun u => over_cell (show w8.cell? ⟨bd, 1, none⟩ = some (.int .i64 0) from cell_of_heap Z8) u
    have v2 := fun u => over_cell (show w8.cell? ⟨bd, 2, none⟩ = some (.int .u64 0) from cell_of_heap Z8) u
    have v3 := fun u => over_cell (show w8.cell? ⟨bd, 3, none⟩ = some (.int .u64 0) from cell_of_heap Z8) u
    have SP := fun (u : Over w8) (qa' : Option Addr) (hq : HandQ qa qa') => IP8.out.step qa' hq u.w' u.h
    have SQ := fun (u : Over w8) (qa' : Option Addr) (hq : HandQ qa qa') => IQ8.out.step qa' hq u.w' u.h
    unfold noDid at SP SQ
    have HSP := hide SP
    have HSQ := hide SQ
    have DP := fun u : Over w8 => hide (IP8.out.done u.w' u.h)
    have DQ := fun u : Over w8 => hide (IQ8.out.done u.w' u.h)
    clear SP SQ
    refine over_region (by kernel_rfl) (by kernel_rfl) ?_
    repeat (go_big_quiet_step (first | (go_at_call 12; exact over_call _ (HSP.out _ _ (by simp [HandQ]))) | (go_at_call 17; exact over_call _ (HSQ.out _ _ (by simp [HandQ]))) | (go_at_call 11; exact over_call _ (DP _).out) | (go_at_call 16; exact over_call _ (DQ _).out)))
    refine wpQuiet_nil ?_
    rintro _ ⟨u9, rfl⟩
    have O9 := hide (O8.out.below lO u9.h)
    clear v0 v1 v2 v3 HSP HSQ DP DQ IP8 IQ8 hne0 O8 Z8
    generalize u9.w' = w9 at *
    go_wp2_with fail
    refine (HRN.out _).mono ?_
    rintro e w10 ⟨rfl, b10⟩
    have O10 := hide ((O9.out.below lO b10).below lO (grown1 w10 (.cells #[.int .i64 0, .int .i64 0, .int .i64 0, .int .i64 0, .int .i64 0, .int .u64 0, .int .u64 0] 45)))
    clear b10 O9 HRN
    unfold spanV spanC Rec.Sp.zero
    go_wp2_with fail
    generalize w10.alloc (.cells #[.int .i64 0, .int .i64 0, .int .i64 0, .int .i64 0, .int .i64 0, .int .u64 0, .int .u64 0] 45) = w11 at *
    refine (HRA.out _ _ _ _ _ _ _ _ _ O10.out).mono ?_
    rintro e w12 ⟨rfl, b12⟩
    have O12 := hide ((O10.out.below lO b12).below lO (grown1 w12 (.cells #[.int .i64 0, .int .i64 0, .int .i64 0, .int .i64 0, .int .i64 0, .int .u64 0, .int .u64 0] 45)))
    clear b12 O10 HRA
    unfold spanV spanC Rec.Sp.zero
    go_wp2_with fail
    generalize w12.alloc (.cells #[.int .i64 0, .int .i64 0, .int .i64 0, .int .i64 0, .int .i64 0, .int .u64 0, .int .u64 0] 45) = w13 at *
    refine (recListNil _).mono ?_
    rintro e w14 ⟨rfl, b14⟩
    have O14 := hide (O12.out.below lO b14)
    clear b14 O12
    go_wp2_with fail
    refine (storeX O14.out).mono ?_
    rintro e w15 ⟨rfl, rfl⟩
    go_wp2_with fail
    refine (countX O14.out).mono ?_
    rintro e w15 ⟨rfl, rfl⟩
    rw [HC3.out]
    go_wp2_with fail
    have HB14 := hide (BEH.out _ O14.out.back)
    clear O14
    refine (HAW.out _ HB14.out).mono ?_
    rintro e w16 ⟨rfl, b16⟩
    have HB16 := hide (HB14.out.trans (b16.mono HB14.out.size))
    clear b16 HB14
    go_wp2
    go_ret
    exact ⟨rfl, HB16.out⟩

set_option maxRecDepth 100000 in
set_option maxHeartbeats 16000000 in
theorem main1 (pg : Int) (hpg : -9223372036854775808 ≤ pg ∧ pg ≤ 9223372036854775807) (c n g : Int) (al : Nat) (w : World) (hCT : ClsTab w) :
    Calls Tryd.prog 5 #[.agg #[.int .i64 3, .int .i64 2], .int .i64 pg, .int .i64 c, .int .i64 n, .int .i64 g, .int .u64 (al : Int)] w fun e w' => e = .returned (.bool true) ∧ Below w.heap.size w w' := by
  have NP := hide (fun u (hu : Below w.heap.size w u) => newLy 3 2 pg c n g al hpg.2 u (hCT.grown hu))
  have NQ := hide (fun u => newGn 3 2 pg n hpg.2 u)
  have RP := hide (fun u => rightLay 3 2 pg c n g al hpg u)
  have RQ := hide (fun u => rightGone 3 2 pg c n g al hpg u)
  have NP2 := hide (fun u (hu : Below w.heap.size w u) => newLy 3 4 pg c n g al hpg.2 u (hCT.grown hu))
  have NQ2 := hide (fun u => newGn 3 4 pg n hpg.2 u)
  have HA1 := hide (fun (R : Res) (w0 u : World) (l : Loc R) (ho : Own R w0 u) => @anew R w0 u l ho 3 2 (by decide) [] (by simp) none 0 (fun _ => ⟨rfl, rfl⟩) (fun h => absurd rfl h))
  have HAW := hide (fun u (hu : Below w.heap.size w u) => awake14 u (hCT.grown hu))
  have HRN := hide (fun u => readNil pg u)
  have HRA := hide (firstRd pg)
  have hc3 : (St.first (Lay.words ((3 : Nat) : Int) 2).toNat).count = 0 := rfl
  have HC3 := hide hc3
  clear hc3 hCT hpg
  generalize St.first (Lay.words ((3 : Nat) : Int) 2).toNat = s0 at *
  rw [show ((3 : Nat) : Int) = 3 from rfl, List.length_nil] at HA1
  generalize ([(kOf 0 (3 : Nat), ([] : List Nat).getD 0 0, ())] : RL) = rl at *
  unfold mIn at RP RQ
  generalize hmt : mayLay 3 2 pg c n g al = mt at *
  generalize hml : hasPg 3 2 pg n = ml at *
  clear hmt hml
  have bf := buildX 3 2 pg c n g al
  have hz : (w.alloc (.cells #[.int .i64 3, .int .i64 2] 24)).heap.size = w.heap.size + 1 := by simp
  have hgx : Hid (((w.alloc (.cells #[.int .i64 3, .int .i64 2] 24)).alloc (.cells #[.int .i64 0, .int .i64 0, .int .i64 0, .int .i64 0, .int .i64 0, .int .i64 0, .int .i64 0, .int .i64 0, .int .i64 0, .int .i64 0, .int .i64 0, .int .u64 0, .bool false, .slice none 0 0, .slice none 0 0, .bool false, .int .i64 0, .bool false, .pointer none, .int .i64 0, .int .i64 0, .int .u64 0, .int .u64 0, .int .i64 0, .int .i64 0, .int .i64 0, .int .i64 0, .int .u64 0, .slice none 0 0, .slice none 0 0, .int .i64 0, .int .i64 0] 38)).heap[w.heap.size + 1]? = some (.cells #[.int .i64 0, .int .i64 0, .int .i64 0, .int .i64 0, .int .i64 0, .int .i64 0, .int .i64 0, .int .i64 0, .int .i64 0, .int .i64 0, .int .i64 0, .int .u64 0, .bool false, .slice none 0 0, .slice none 0 0, .bool false, .int .i64 0, .bool false, .pointer none, .int .i64 0, .int .i64 0, .int .u64 0, .int .u64 0, .int .i64 0, .int .i64 0, .int .i64 0, .int .i64 0, .int .u64 0, .slice none 0 0, .slice none 0 0, .int .i64 0, .int .i64 0] 38 (0, 0))) := hide (by rw [← hz]; exact heap_alloc_last _ _)
  have hse : Hid (((w.alloc (.cells #[.int .i64 3, .int .i64 2] 24)).alloc (.cells #[.int .i64 0, .int .i64 0, .int .i64 0, .int .i64 0, .int .i64 0, .int .i64 0, .int .i64 0, .int .i64 0, .int .i64 0, .int .i64 0, .int .i64 0, .int .u64 0, .bool false, .slice none 0 0, .slice none 0 0, .bool false, .int .i64 0, .bool false, .pointer none, .int .i64 0, .int .i64 0, .int .u64 0, .int .u64 0, .int .i64 0, .int .i64 0, .int .i64 0, .int .i64 0, .int .u64 0, .slice none 0 0, .slice none 0 0, .int .i64 0, .int .i64 0] 38)).setRow (w.heap.size + 1) #[.int .i64 5, .int .i64 3, .int .i64 2, .int .i64 0, .int .i64 pg, .int .i64 c, .int .i64 n, .int .i64 g, .int .i64 0, .int .i64 0, .int .i64 0, .int .u64 (al : Int), .bool false, .slice none 0 0, .slice none 0 0, .bool false, .int .i64 0, .bool false, .pointer none, .int .i64 0, .int .i64 0, .int .u64 0, .int .u64 0, .int .i64 0, .int .i64 0, .int .i64 0, .int .i64 0, .int .u64 0, .slice none 0 0, .slice none 0 0, .int .i64 0, .int .i64 0] = ((w.alloc (.cells #[.int .i64 3, .int .i64 2] 24)).alloc (.cells #[.int .i64 5, .int .i64 3, .int .i64 2, .int .i64 0, .int .i64 pg, .int .i64 c, .int .i64 n, .int .i64 g, .int .i64 0, .int .i64 0, .int .i64 0, .int .u64 (al : Int), .bool false, .slice none 0 0, .slice none 0 0, .bool false, .int .i64 0, .bool false, .pointer none, .int .i64 0, .int .i64 0, .int .u64 0, .int .u64 0, .int .i64 0, .int .i64 0, .int .i64 0, .int .i64 0, .int .u64 0, .slice none 0 0, .slice none 0 0, .int .i64 0, .int .i64 0] 38))) := hide (by rw [← hz]; exact World.setRow_alloc_new _ _ _ _)
  have O1 : Hid (On w.heap.size (w.heap.size + 1) 3 2 #[.int .i64 5, .int .i64 3, .int .i64 2, .int .i64 0, .int .i64 pg, .int .i64 c, .int .i64 n, .int .i64 g, .int .i64 0, .int .i64 0, .int .i64 0, .int .u64 (al : Int), .bool false, .slice none 0 0, .slice none 0 0, .bool false, .int .i64 0, .bool false, .pointer none, .int .i64 0, .int .i64 0, .int .u64 0, .int .u64 0, .int .i64 0, .int .i64 0, .int .i64 0, .int .i64 0, .int .u64 0, .slice none 0 0, .slice none 0 0, .int .i64 0, .int .i64 0] w ((w.alloc (.cells #[.int .i64 3, .int .i64 2] 24)).alloc (.cells #[.int .i64 5, .int .i64 3, .int .i64 2, .int .i64 0, .int .i64 pg, .int .i64 c, .int .i64 n, .int .i64 g, .int .i64 0, .int .i64 0, .int .i64 0, .int .u64 (al : Int), .bool false, .slice none 0 0, .slice none 0 0, .bool false, .int .i64 0, .bool false, .pointer none, .int .i64 0, .int .i64 0, .int .u64 0, .int .u64 0, .int .i64 0, .int .i64 0, .int .i64 0, .int .i64 0, .int .u64 0, .slice none 0 0, .slice none 0 0, .int .i64 0, .int .i64 0] 38))) := hide ⟨heap_alloc_old (heap_alloc_at _ _), by rw [← hz]; exact heap_alloc_at _ _, (grown1 _ _).trans ((grown1 _ _).mono (by simp))⟩
  clear hz
  go_enter Tryd.func5, Tryd.ntmps5
  go_wp2_with (first
    | fail
    | (refine wpList_store_row rfl 38 _ _ rfl _ _ rfl rfl _ _ hgx.out (by kernel_rfl) rfl (by kernel_rfl) ?_
       rw [hse.out]
       generalize ((w.alloc (.cells #[.int .i64 3, .int .i64 2] 24)).alloc (.cells #[.int .i64 5, .int .i64 3, .int .i64 2, .int .i64 0, .int .i64 pg, .int .i64 c, .int .i64 n, .int .i64 g, .int .i64 0, .int .i64 0, .int .i64 0, .int .u64 (al : Int), .bool false, .slice none 0 0, .slice none 0 0, .bool false, .int .i64 0, .bool false, .pointer none, .int .i64 0, .int .i64 0, .int .u64 0, .int .u64 0, .int .i64 0, .int .i64 0, .int .i64 0, .int .i64 0, .int .u64 0, .slice none 0 0, .slice none 0 0, .int .i64 0, .int .i64 0] 38)) = w1 at *
       clear hgx hse bf))
  obtain ⟨bl, hbl⟩ : ∃ bl, w.heap.size = bl := ⟨_, rfl⟩
  have HBL := hide hbl
  rw [hbl] at O1
  rw [hbl]
  clear hbl
  obtain ⟨cs5, hcs5⟩ : ∃ cs : Array Value, #[.int .i64 5, .int .i64 3, .int .i64 2, .int .i64 0, .int .i64 pg, .int .i64 c, .int .i64 n, .int .i64 g, .int .i64 0, .int .i64 0, .int .i64 0, .int .u64 (al : Int), .bool false, .slice none 0 0, .slice none 0 0, .bool false, .int .i64 0, .bool false, .pointer none, .int .i64 0, .int .i64 0, .int .u64 0, .int .u64 0, .int .i64 0, .int .i64 0, .int .i64 0, .int .i64 0, .int .u64 0, .slice none 0 0, .slice none 0 0, .int .i64 0, .int .i64 0] = cs := ⟨_, rfl⟩
  rw [hcs5] at O1
  have HCS := hide hcs5
  clear hcs5
  have J1 := hide (O1.out.grow ((Alike.drewN w1 1).below _))
  have hne0 : Nonempty (Mem (On bl (bl + 1) 3 2 cs5 w)) := ⟨⟨_, J1.out⟩⟩
  have U0 : ∀ u : Mem (On bl (bl + 1) 3 2 cs5 w), u.w'.cell? ⟨bl, 0, none⟩ = some (.int .i64 3) := fun u => cell_of_heap u.h.lay
  have U1 : ∀ u : Mem (On bl (bl + 1) 3 2 cs5 w), u.w'.cell? ⟨bl, 1, none⟩ = some (.int .i64 2) := fun u => cell_of_heap u.h.lay
  simp only [Act.put]
  refine region_start (J := On bl (bl + 1) 3 2 cs5 w) (by kernel_rfl) ?_
  refine stretch (fuel := 4) (by kernel_rfl) (fun _ _ _ _ _ h => h) J1.out [0, 1, 2, 3, 4, 5, 7, 8, 9] (by kernel_rfl) ?_
  simp only [List.filterMap_cons, List.filterMap_nil, List.getElem?_toArray, List.getElem?_cons_zero, List.getElem?_cons_succ]
  show wpQuiet _ _ _ _ [_, _, _, _, _, _, _, _, _] _
  repeat (go_big_quiet_step (fail))
  refine wpQuiet_nil ?_
  refine wpAnyJ_writer (i := 6) rfl (by kernel_rfl) (fun K' hK => ?_)
  go_simp
  refine (NP.out _ J1.out.below).mono ?_
  rintro e w2 ⟨pa, rfl, ha1, ha2, b2⟩
  have J2 := hide (J1.out.grow b2)
  have HPA := hide ha2
  refine hK _ _ J2.out ?_
  clear hK K' J1 O1 ha2 b2
  refine wpAnyJ_writer (i := 10) rfl (by kernel_rfl) (fun K' hK => ?_)
  go_simp
  refine (NQ.out _).mono ?_
  rintro e w3 ⟨pb, rfl, hb1, hb2, b3⟩
  have J3 := hide (J2.out.grow b3)
  have HPB := hide hb2
  have HPA3 : Hid (pa = none ∨ ∃ m : Nat, pa = some ⟨m, 0, none⟩ ∧ SomeLay 3 2 m w3) := hide (HPA.out.imp id (fun ⟨m, h1, h2⟩ => ⟨m, h1, h2.below b3⟩))
  refine hK _ _ J3.out ?_
  clear hK K' b3 J2 NP NQ hb2 HPA
  refine stretch (fuel := 0) (by kernel_rfl) (fun _ _ _ _ _ h => h) J3.out [11, 12] (by kernel_rfl) ?_
  simp only [List.filterMap_cons, List.filterMap_nil, List.getElem?_toArray, List.getElem?_cons_zero, List.getElem?_cons_succ]
  show wpQuiet _ _ _ _ [_, _] _
  repeat (go_big_quiet_step (fail))
  refine wpQuiet_nil ?_
  refine wpAnyJ_done (by kernel_rfl) ?_
  clear U0 U1 hne0
  have J3' : Hid (On bl (bl + 1) 3 2 #[.int .i64 5, .int .i64 3, .int .i64 2, .int .i64 0, .int .i64 pg, .int .i64 c, .int .i64 n, .int .i64 g, .int .i64 0, .int .i64 0, .int .i64 0, .int .u64 (al : Int), .bool false, .slice none 0 0, .slice none 0 0, .bool false, .int .i64 0, .bool false, .pointer none, .int .i64 0, .int .i64 0, .int .u64 0, .int .u64 0, .int .i64 0, .int .i64 0, .int .i64 0, .int .i64 0, .int .u64 0, .slice none 0 0, .slice none 0 0, .int .i64 0, .int .i64 0] w w3) := hide (by rw [HCS.out]; exact J3.out)
  clear J3
  go_wp2_with (first | fail | (refine wpList_load_row rfl 38 _ rfl _ rfl 38 #[.int .i64 5, .int .i64 3, .int .i64 2, .int .i64 0, .int .i64 pg, .int .i64 c, .int .i64 n, .int .i64 g, .int .i64 0, .int .i64 0, .int .i64 0, .int .u64 (al : Int), .bool false, .slice none 0 0, .slice none 0 0, .bool false, .int .i64 0, .bool false, .pointer none, .int .i64 0, .int .i64 0, .int .u64 0, .int .u64 0, .int .i64 0, .int .i64 0, .int .i64 0, .int .i64 0, .int .u64 0, .slice none 0 0, .slice none 0 0, .int .i64 0, .int .i64 0] (0, 0) _ (show _ from J3'.out.x) Tryd.underlying38 rfl (by kernel_rfl) ?_))
  refine (RP.out _).mono ?_
  rintro e w4 ⟨rfl, b4⟩
  have J4 := hide (J3'.out.grow b4)
  clear J3'
  have x0 : w4.cell? ⟨bl + 1, 0, none⟩ = some (.int .i64 5) := cell_of_heap J4.out.x
  have fx : ∀ o, w4.frozen? ⟨bl + 1, o, none⟩ = false := fun o => frozen_of_heap J4.out.x
  have hbx : w.heap.size ≤ bl + 1 := by rw [HBL.out]; omega
  have J4' : Hid (On bl (bl + 1) 3 2 #[.int .i64 6, .int .i64 3, .int .i64 2, .int .i64 0, .int .i64 pg, .int .i64 c, .int .i64 n, .int .i64 g, .int .i64 0, .int .i64 0, .int .i64 0, .int .u64 (al : Int), .bool false, .slice none 0 0, .slice none 0 0, .bool false, .int .i64 0, .bool false, .pointer none, .int .i64 0, .int .i64 0, .int .u64 0, .int .u64 0, .int .i64 0, .int .i64 0, .int .i64 0, .int .i64 0, .int .u64 0, .slice none 0 0, .slice none 0 0, .int .i64 0, .int .i64 0] w (w4.setCell ⟨bl + 1, 0, none⟩ (.int .i64 6))) := hide ⟨block_setCell (p := ⟨bl + 1, 0, none⟩) (show bl ≠ bl + 1 by omega) _ J4.out.lay, heap_setCell_at J4.out.x _, J4.out.below.setCell (p := ⟨bl + 1, 0, none⟩) hbx _⟩
  have HPA4 : Hid (pa = none ∨ ∃ m : Nat, pa = some ⟨m, 0, none⟩ ∧ SomeLay 3 2 m (w4.setCell ⟨bl + 1, 0, none⟩ (.int .i64 6))) := hide (HPA3.out.imp id (fun ⟨m, h1, h2⟩ => ⟨m, h1, by obtain ⟨a1, a2, a3, a4, a5, h, r⟩ := h2.below b4; exact ⟨a1, a2, a3, a4, a5, block_setCell (p := ⟨bl + 1, 0, none⟩) (fun e => by have e : m = bl + 1 := e; subst e; rw [J4.out.x] at h; simp [layM] at h) _ h, r⟩⟩))
  have HPB4 : Hid (pb = none ∨ ∃ m : Nat, pb = some ⟨m, 0, none⟩ ∧ SomeGone 3 2 m (w4.setCell ⟨bl + 1, 0, none⟩ (.int .i64 6))) := hide (HPB.out.imp id (fun ⟨m, h1, h2⟩ => ⟨m, h1, by obtain ⟨a1, a2, h, r⟩ := h2.below b4; exact ⟨a1, a2, block_setCell (p := ⟨bl + 1, 0, none⟩) (fun e => by have e : m = bl + 1 := e; subst e; rw [J4.out.x] at h; simp [goneM] at h) _ h, r⟩⟩))
  clear b4 J4 HPA3 HPB RP
  go_wp2_with (first | fail | (clear x0 fx; generalize w4.setCell ⟨bl + 1, 0, none⟩ (.int .i64 6) = w4b at *; (refine wpList_load_row rfl 38 _ rfl _ rfl 38 #[.int .i64 6, .int .i64 3, .int .i64 2, .int .i64 0, .int .i64 pg, .int .i64 c, .int .i64 n, .int .i64 g, .int .i64 0, .int .i64 0, .int .i64 0, .int .u64 (al : Int), .bool false, .slice none 0 0, .slice none 0 0, .bool false, .int .i64 0, .bool false, .pointer none, .int .i64 0, .int .i64 0, .int .u64 0, .int .u64 0, .int .i64 0, .int .i64 0, .int .i64 0, .int .i64 0, .int .u64 0, .slice none 0 0, .slice none 0 0, .int .i64 0, .int .i64 0] (0, 0) _ (show _ from J4'.out.x) Tryd.underlying38 rfl (by kernel_rfl) ?_)))
  refine (RQ.out _).mono ?_
  rintro e w5 ⟨rfl, b5⟩
  have J5 : Hid (OnL bl 3 2 w w5) := hide ⟨(J4'.out.grow b5).lay, (J4'.out.grow b5).below⟩
  have HB35 := hide b5
  clear b5 J4' RQ
  go_wp2_with fail
  have lB : Loc (Sep (BO bl (layO 3 2)) Nought) := Loc.bo.sep Loc.nought
  have O5 : Hid (Own (Sep (BO bl (layO 3 2)) Nought) w w5) := hide ⟨fun x => x = bl, ⟨fun x => x = bl, fun _ => False, ⟨J5.out.lay, fun _ => Iff.rfl⟩, fun _ h => h, fun _ _ h => h, fun x => ⟨.inl, fun h => h.elim id False.elim⟩⟩, fun x hx => by rw [hx, ← HBL.out]; exact Nat.le_refl _, J5.out.below⟩
  refine (HA1.out _ _ _ lB O5.out).mono ?_
  rintro e w6 ⟨qa, ra', rr, rfl, o6⟩
  have O6 := hide o6
  have J6 : Hid (OnL bl 3 2 w w6) := hide ⟨o6.has (R := Sep (AX qa 3 2 ra' rr s0 3 [] 1 rl) Nought) (by ac_rfl), o6.back⟩
  have lO : Loc (Sep (AX qa 3 2 ra' rr s0 3 [] 1 rl) (Sep (BO bl (layO 3 2)) Nought)) := Loc.ax.sep lB
  clear o6 J5 HA1 O5
  clear ha1 hb1
  go_wp2
  have hne0 : Nonempty (Over w6) := ⟨⟨_, Below.refl _ _⟩⟩
  have u0 := fun u => over_cell (show w6.cell? ⟨bl, 0, none⟩ = some (.int .i64 3) from cell_of_heap J6.out.lay) u
  have u1 := fun u => over_cell (show w6.cell? ⟨bl, 1, none⟩ = some (.int .i64 2) from cell_of_heap J6.out.lay) u
  have LA := fun u : Over w6 => hide (layoutX (O6.out.below lO u.h))
  refine over_region (by kernel_rfl) (by kernel_rfl) ?_
  repeat (go_big_quiet_step (first | (go_at_call 25; exact over_call _ (LA _).out)))
  refine wpQuiet_nil ?_
  rintro _ ⟨u7, rfl⟩
  have O7 := hide (O6.out.below lO u7.h)
  have J7 := hide (J6.out.grow u7.h)
  clear u0 u1 LA hne0 J6 HPA4 HPB4
  generalize u7.w' = w7 at *
  have f7 : ∀ o, w7.frozen? ⟨bl, o, none⟩ = false := fun o => frozen_of_heap J7.out.lay
  have k7 : w7.cell? ⟨bl, 1, none⟩ = some (.int .i64 2) := cell_of_heap J7.out.lay
  have e8 := heap_setCell_at (o := 1) J7.out.lay (.int .i64 4)
  have J8 : Hid (OnL bl 3 4 w (w7.setCell ⟨bl, 1, none⟩ (.int .i64 4))) := hide ⟨e8, J7.out.below.setCell (p := ⟨bl, 1, none⟩) (by rw [HBL.out]; exact Nat.le_refl _) _⟩
  have lB2 : Loc (Sep (BO bl (layO 3 4)) Nought) := Loc.bo.sep Loc.nought
  have O8 : Hid (Own (Sep (AX qa 3 2 ra' rr s0 3 [] 1 rl) (Sep (BO bl (layO 3 4)) Nought)) w (w7.setCell ⟨bl, 1, none⟩ (.int .i64 4))) :=
    hide ((Own.boSet (Loc.ax.sep Loc.nought) (O7.out.cast (R' := Sep (BO bl (layO 3 2)) (Sep (AX qa 3 2 ra' rr s0 3 [] 1 rl) Nought)) (by ac_rfl)) 1 (.int .i64 4)).cast (R' := Sep (AX qa 3 2 ra' rr s0 3 [] 1 rl) (Sep (BO bl (layO 3 4)) Nought)) (by show Sep (BO bl (layO 3 4)) _ = _; ac_rfl))
  clear e8 O7 O6 lO
  have lO : Loc (Sep (AX qa 3 2 ra' rr s0 3 [] 1 rl) (Sep (BO bl (layO 3 4)) Nought)) := Loc.ax.sep lB2
  go_wp2
  clear f7 k7 J7
  generalize w7.setCell ⟨bl, 1, none⟩ (.int .i64 4) = w8 at *
  have J1 := hide (J8.out.grow ((Alike.drewN w8 1).below _))
  have O1 := hide (O8.out.below lO ((Alike.drewN w8 1).below _))
  clear J8 O8
  have hne1 : Nonempty (Mem (OnL bl 3 4 w)) := ⟨⟨_, J1.out⟩⟩
  have U0 : ∀ u : Mem (OnL bl 3 4 w), u.w'.cell? ⟨bl, 0, none⟩ = some (.int .i64 3) := fun u => cell_of_heap u.h.lay
  have U1 : ∀ u : Mem (OnL bl 3 4 w), u.w'.cell? ⟨bl, 1, none⟩ = some (.int .i64 4) := fun u => cell_of_heap u.h.lay
  refine region_start (J := OnL bl 3 4 w) (by kernel_rfl) ?_
  refine stretch (fuel := 4) (by kernel_rfl) (fun _ _ _ _ _ h => h) J1.out [0, 1, 2, 3, 4, 5, 7, 8, 9] (by kernel_rfl) ?_
  simp only [List.filterMap_cons, List.filterMap_nil, List.getElem?_toArray, List.getElem?_cons_zero, List.getElem?_cons_succ]
  show wpQuiet _ _ _ _ [_, _, _, _, _, _, _, _, _] _
  repeat (go_big_quiet_step (fail))
  refine wpQuiet_nil ?_
  refine wpAnyJ_writer (i := 6) rfl (by kernel_rfl) (fun K' hK => ?_)
  go_simp
  refine (NP2.out _ J1.out.below).mono ?_
  rintro e w10 ⟨pa2, rfl, _, kv, b10⟩
  have J2 := hide (J1.out.grow b10)
  have O2 := hide (O1.out.below lO b10)
  have IP2 : Hid (IdleLay qa (.pointer pa2) w10) := hide (by
    rcases kv with rfl | ⟨m, rfl, hm⟩
    · exact layNilIdle qa _
    · exact hm.idle (ArAt.of O2.out) (.inr (by omega)))
  refine hK _ _ J2.out ?_
  clear hK K' b10 J1 O1 kv
  refine wpAnyJ_writer (i := 10) rfl (by kernel_rfl) (fun K' hK => ?_)
  go_simp
  refine (NQ2.out _).mono ?_
  rintro e w11 ⟨pb2, rfl, _, kv, b11⟩
  have J7 := hide (J2.out.grow b11)
  have O7 := hide (O2.out.below lO b11)
  have IP := hide (IP2.out.grow b11)
  have IQ : Hid (IdleGone qa (.pointer pb2) w11) := hide (by
    rcases kv with rfl | ⟨m, rfl, hm⟩
    · exact goneNilIdle qa _
    · exact hm.idle (ArAt.of O7.out) (.inr (by omega)))
  refine hK _ _ J7.out ?_
  clear hK K' b11 J2 O2 kv IP2
  refine stretch (fuel := 0) (by kernel_rfl) (fun _ _ _ _ _ h => h) J7.out [11, 12] (by kernel_rfl) ?_
  simp only [List.filterMap_cons, List.filterMap_nil, List.getElem?_toArray, List.getElem?_cons_zero, List.getElem?_cons_succ]
  show wpQuiet _ _ _ _ [_, _] _
  repeat (go_big_quiet_step (fail))
  refine wpQuiet_nil ?_
  refine wpAnyJ_done (by kernel_rfl) ?_
  clear U0 U1 hne1 NP2 NQ2
  generalize w11 = w7 at *
  have BEH : Hid (∀ u, Below w.heap.size w u → Below w.heap.size w u) := hide (fun u hu => hu)
  go_wp2
  have Z8 := heap_alloc_at w7 (.cells #[.int .i64 0, .int .i64 0, .int .u64 0, .int .u64 0] 34)
  have B8 := grown1 w7 (.cells #[.int .i64 0, .int .i64 0, .int .u64 0, .int .u64 0] 34)
  have IP8 := hide (IP.out.grow B8)
  have IQ8 := hide (IQ.out.grow B8)
  have O8 := hide (O7.out.below lO B8)
  clear IP IQ O7 J7 B8
  generalize w7.alloc (.cells #[.int .i64 0, .int .i64 0, .int .u64 0, .int .u64 0] 34) = w8 at *
  generalize w7.heap.size = bd at *
  have hne0 : Nonempty (Over w8) := ⟨⟨_, Below.refl _ _⟩⟩
  have v0 := fun u => over_cell (show w8.cell? ⟨bd, 0, none⟩ = some (.int .i64 0) from cell_of_heap Z8) u
  have v1 := fun u => over_cell (show w8.cell? ⟨bd, 1, none⟩ = some (.int .i64 0) from cell_of_heap Z8) u
  have v2 := fun u => over_cell (show w8.cell? ⟨bd, 2, none⟩ = some (.int .u64 0) from cell_of_heap Z8) u
  have v3 := fun u => over_cell (show w8.cell? ⟨bd, 3, none⟩ = some (.int .u64 0) from cell_of_heap Z8) u
  have SP := fun (u : Over w8) (qa' : Option Addr) (hq : HandQ qa qa') => IP8.out.step qa' hq u.w' u.h
  have SQ := fun (u : Over w8) (qa' : Option Addr) (hq : HandQ qa qa') => IQ8.out.step qa' hq u.w' u.h
  unfold noDid at SP SQ
  have HSP := hide SP
  have HSQ := hide SQ
  have DP := fun u : Over w8 => hide (IP8.out.done u.w' u.h)
  have DQ := fun u : Over w8 => hide (IQ8.out.done u.w' u.h)
  clear SP SQ
  refine over_region (by kernel_rfl) (by kernel_rfl) ?_
  repeat (go_big_quiet_step (first | (go_at_call 12; exact over_call _ (HSP.out _ _ (by simp [HandQ]))) | (go_at_call 17; exact over_call _ (HSQ.out _ _ (by simp [HandQ]))) | (go_at_call 11; exact over_call _ (DP _).out) | (go_at_call 16; exact over_call _ (DQ _).out)))
  refine wpQuiet_nil ?_
  rintro _ ⟨u9, rfl⟩
  have O9 := hide (O8.out.below lO u9.h)
  clear v0 v1 v2 v3 HSP HSQ DP DQ IP8 IQ8 hne0 O8 Z8
  generalize u9.w' = w9 at *
  go_wp2_with fail
  refine (HRN.out _).mono ?_
  rintro e w10 ⟨rfl, b10⟩
  have O10 := hide ((O9.out.below lO b10).below lO (grown1 w10 (.cells #[.int .i64 0, .int .i64 0, .int .i64 0, .int .i64 0, .int .i64 0, .int .u64 0, .int .u64 0] 45)))
  clear b10 O9 HRN
  unfold spanV spanC Rec.Sp.zero
  go_wp2_with fail
  generalize w10.alloc (.cells #[.int .i64 0, .int .i64 0, .int .i64 0, .int .i64 0, .int .i64 0, .int .u64 0, .int .u64 0] 45) = w11 at *
  refine (HRA.out _ _ _ _ _ _ _ _ _ O10.out).mono ?_
  rintro e w12 ⟨rfl, b12⟩
  have O12 := hide ((O10.out.below lO b12).below lO (grown1 w12 (.cells #[.int .i64 0, .int .i64 0, .int .i64 0, .int .i64 0, .int .i64 0, .int .u64 0, .int .u64 0] 45)))
  clear b12 O10 HRA
  unfold spanV spanC Rec.Sp.zero
  go_wp2_with fail
  generalize w12.alloc (.cells #[.int .i64 0, .int .i64 0, .int .i64 0, .int .i64 0, .int .i64 0, .int .u64 0, .int .u64 0] 45) = w13 at *
  refine (recListNil _).mono ?_
  rintro e w14 ⟨rfl, b14⟩
  have O14 := hide (O12.out.below lO b14)
  clear b14 O12
  go_wp2_with fail
  refine (storeX O14.out).mono ?_
  rintro e w15 ⟨rfl, rfl⟩
  go_wp2_with fail
  refine (countX O14.out).mono ?_
  rintro e w15 ⟨rfl, rfl⟩
  rw [HC3.out]
  go_wp2_with fail
  have HB14 := hide (BEH.out _ O14.out.back)
  clear O14
  refine (HAW.out _ HB14.out).mono ?_
  rintro e w16 ⟨rfl, b16⟩
  have HB16 := hide (HB14.out.trans (b16.mono HB14.out.size))
  clear b16 HB14
  go_wp2
  go_ret
  exact ⟨rfl, HB16.out⟩

theorem walk (P T : Int) (_hP : -9223372036854775808 ≤ P ∧ P ≤ 9223372036854775807) (_hT : -9223372036854775808 ≤ T ∧ T ≤ 9223372036854775807) (pg : Int) (hpg : -9223372036854775808 ≤ pg ∧ pg ≤ 9223372036854775807) (c : Int) (_hc : -9223372036854775808 ≤ c ∧ c ≤ 9223372036854775807) (n : Int) (_hn : -9223372036854775808 ≤ n ∧ n ≤ 9223372036854775807) (g : Int) (_hg : -9223372036854775808 ≤ g ∧ g ≤ 9223372036854775807) (al : Nat) (_hal : al < 18446744073709551616) (w : World) (hT : ClsTab w) :
    Calls Tryd.prog 5 #[.agg #[.int .i64 P, .int .i64 T], .int .i64 pg, .int .i64 c, .int .i64 n, .int .i64 g, .int .u64 (al : Int)] w fun e w' => e = .returned (.bool true) ∧ Below w.heap.size w w' := by
  by_cases e : P = 3 ∧ T = 2
  · obtain ⟨rfl, rfl⟩ := e
    exact main1 pg hpg c n g al w hT
  · exact main0 P T pg hpg c n g al (by omega) w hT

set_option maxRecDepth 100000 in
theorem lifted (os : Os) (started : os.Started) (H : Type) (enc : TypeId × Value → H) :
    ReturnsInHanded {} Tryd.checked os 5 .any (fun w args => (Rows.recordMaySpec.pre enc Tryd.prog Tryd.f5 [] false w args ∧ laidMetH Tryd.prog laidK w) ∧ sizedMet enc Tryd.prog Tryd.f5 (OpenSpec.ofChange Rows.recordMaySpec) false w args)
      (Rows.recordMaySpec.post enc Tryd.prog Tryd.f5 false true false false) := by
  refine returnsInHanded_of_change_and (C := Tryd.checked) (X := fun w _ => laidMetH Tryd.prog laidK w) (fun _ _ _ hh h => h.of_heap hh) own started (by kernel_rfl) Tryd.func5
    (ChangeSpec.witness_shaped (enc := enc) (C := Tryd.checked) (os := os) (X := fun w _ => laidMetH Tryd.prog laidK w) false (World.doorLaid Tryd.prog 400 os) #[.agg #[.int .i64 0, .int .i64 0], .int .i64 0, .int .i64 0, .int .i64 0, .int .i64 0, .int .u64 0] 8 rfl (World.shaped_of_RefB (by kernel_rfl) (by kernel_rfl)) (by kernel_rfl) (by kernel_rfl) (by kernel_rfl) (door_met os _)) ?_
  intro W base args ds gs before hval0 hW _ _ hL _
  have hval : ∀ (j : Nat) t v, Tryd.f5.params[j]? = some t → args[j]? = some v → Value.okWide Tryd.prog W .any base t v := hval0
  have hW' := hW
  obtain ⟨p, q, hA0, hV, rfl, hfz, hnd⟩ := hW
  have hA : DataW.TrodAll enc Tryd.prog W 0 (fun _ => true) true Tryd.f5.params.toList args.toList ds p := hA0
  rw [Tryd.params5] at hA hval
  obtain ⟨v0, vs0, d0, ds0, p0, q0, hargs, rfl, rfl, h0, r0⟩ := trodAll_cons hA
  obtain ⟨v1, vs1, d1, ds1, p1, q1, rfl, rfl, rfl, h1, r1⟩ := trodAll_cons r0
  obtain ⟨v2, vs2, d2, ds2, p2, q2, rfl, rfl, rfl, h2, r2⟩ := trodAll_cons r1
  obtain ⟨v3, vs3, d3, ds3, p3, q3, rfl, rfl, rfl, h3, r3⟩ := trodAll_cons r2
  obtain ⟨v4, vs4, d4, ds4, p4, q4, rfl, rfl, rfl, h4, r4⟩ := trodAll_cons r3
  obtain ⟨v5, vs5, d5, ds5, p5, q5, rfl, rfl, rfl, h5, r5⟩ := trodAll_cons r4
  obtain ⟨rfl, rfl, rfl⟩ := trodAll_nil r5
  obtain rfl : args = #[v0, v1, v2, v3, v4, v5] := by cases args; simp_all
  obtain ⟨rfl, rfl⟩ := trodVars_none hV
  have h0k := h0
  have lt0 : ∀ x ∈ p0, x.block < W.heap.size := fun x hx => hW'.lt x (by simp [hx])
  obtain ⟨l0_0, l0_1, rfl, f0_0, f0_1⟩ := open_layout (hval 0 24 v0 rfl rfl) h0
  obtain ⟨a1, rfl, rfl, rfl, w1⟩ := open_int Tryd.underlying3 (hval 1 3 v1 rfl rfl) h1
  obtain ⟨a2, rfl, rfl, rfl, w2⟩ := open_int Tryd.underlying3 (hval 2 3 v2 rfl rfl) h2
  obtain ⟨a3, rfl, rfl, rfl, w3⟩ := open_int Tryd.underlying3 (hval 3 3 v3 rfl rfl) h3
  obtain ⟨a4, rfl, rfl, rfl, w4⟩ := open_int Tryd.underlying3 (hval 4 3 v4 rfl rfl) h4
  obtain ⟨a5, rfl, rfl, rfl, w5⟩ := open_int Tryd.underlying22 (hval 5 22 v5 rfl rfl) h5
  clear hA0 hval0
  have hx1 := i64_bd w1
  have hx2 := i64_bd w2
  have hx3 := i64_bd w3
  have hx4 := i64_bd w4
  obtain ⟨x5, hx5, rfl⟩ := u64_nat w5
  refine (walk l0_0 l0_1 f0_0 f0_1 a1 hx1 a2 hx2 a3 hx3 a4 hx4 x5 hx5 W (tab_of_laid hL)).mono fun e W' ⟨he, bel⟩ => ?_
  subst he
  exact ⟨_, rfl, _, _, _, [], _, [], hW', trodAll_mk1 (shut_bool Tryd.underlying4 _), (trodAll_cons_mk (Below.trod laidOut (by kernel_rfl) (of_decide_eq_true (by kernel_rfl)) h0k bel lt0) (trodAll_cons_mk (shut_int Tryd.underlying3 w1) (trodAll_cons_mk (shut_int Tryd.underlying3 w2) (trodAll_cons_mk (shut_int Tryd.underlying3 w3) (trodAll_cons_mk (shut_int Tryd.underlying3 w4) (trodAll_cons_mk (shut_int Tryd.underlying22 w5) trodAll_mk0)))))), rfl, bel.frame _, fun h => by cases h⟩

theorem over : Rows.RecordMaySaid :=
  OpenClaim.holds_of_wide 5 Tryd.f5 rfl rfl rfl rfl rfl rfl rfl ⟨rfl, rfl, rfl, rfl, rfl⟩ rfl rfl rfl rfl rfl (by kernel_rfl) Tryd.func5 (by kernel_rfl)
    (of_decide_eq_true (by kernel_rfl)) (by unfold Func.isWrapper; first | (rw [if_pos (by decide +kernel)]; kernel_rfl) | (rw [if_neg (by decide +kernel)]; exact ⟨rfl, rfl⟩))
    (fun os started H enc _ => lifted os started H enc)
end Go.Proofs.YtgdliebllmgibaaDoor.recordMay
namespace Go.Proofs.YtgdliebllmgibaaDoor

theorem recordMay_card : Rows.RecordMayCardSaid :=
  Claim7.holds_tied_plain_at .later [] [.data] true (true, "2b4b426070f714df14b02f4cdba6f47ab81da080f822b34171151bea08b4b8d4") false
    recordMay.over (fun _ h => by cases h) (by kernel_rfl) (fun _ h => by cases h) recordMay_row_tie rfl ⟨rfl, rfl⟩ (by kernel_rfl) rfl
    (fun f fn hf hfn => by
      obtain rfl : f = 5 := Option.some.inj ((show Tryd.prog.funcNamed Rows.recordMayRow.func = some 5 by kernel_rfl).symm.trans hf) |>.symm
      obtain rfl : fn = Tryd.f5 := (Option.some.inj (Tryd.func5.symm.trans hfn)).symm
      exact ⟨by kernel_rfl, fun j t ht => by
        rw [Tryd.params5] at ht
        have hm : t ∈ [24, 3, 3, 3, 3, 22] := by simpa using Array.mem_of_getElem? ht
        have hall : ([24, 3, 3, 3, 3, 22].all fun u => !Tryd.prog.wantsStandIn u) = true := by kernel_rfl
        exact (show Tryd.prog.wantsStandIn t = false by simpa using List.all_eq_true.1 hall t hm)⟩)
    (by kernel_rfl)
end Go.Proofs.YtgdliebllmgibaaDoor
