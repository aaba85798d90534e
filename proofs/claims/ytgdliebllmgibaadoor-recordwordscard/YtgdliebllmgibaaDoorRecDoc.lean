/- The document's spans: what the words of a page say, and of all pages. -/
import Derived.Test.YtgdliebllmgibaaDoorRecList
import Derived.Test.YtgdliebllmgibaaDoorRecLay
import Derived.Test.YtgdliebllmgibaaDoorLayRefName
import Derived.Test.YtgdliebllmgibaaDoorPhRef
import Derived.Test.YtgdliebllmgibaaDoorPY
namespace Go.Proofs.YtgdliebllmgibaaDoor
open Go Go.RowKit

/-- The document's arena: its layout, its words. -/
structure MAt (a : Nat) (P T : Int) (p r b : Nat) (ws : List Nat) (w : World) : Prop where
  hd : w.heap[a]? = some (MObj p r P T)
  st : ∃ s, StoreAt 98 w p b s ∧ s.words = ws
theorem MAt.below {a : Nat} {P T : Int} {p r b : Nat} {ws : List Nat} {w w' : World} (k : MAt a P T p r b ws w) (bl : Below w.heap.size w w') : MAt a P T p r b ws w' := by
  obtain ⟨s, h, e⟩ := k.st
  exact ⟨(bl.block _ (lt_of_heap k.hd)).trans k.hd, s, h.below bl, e⟩
theorem MAt.of {R : Res} {w0 w : World} {a : Nat} {P T : Int} {p r : Nat} {s : St} {pg : Nat} {ds : List Nat} {dn : Nat} {L : RL} (h : Own (Sep (MX a P T p r s pg ds dn L) R) w0 w) : ∃ b, MAt a P T p r b s.words w := by
  obtain ⟨G, ⟨G1, G2, ⟨G3, G4, ⟨h1, _⟩, ⟨G5, G6, ⟨b, h2, _⟩, _⟩, _⟩, _⟩, _⟩ := h
  exact ⟨b, h1, s, h2, rfl⟩

/-- On the way through Read: the result's block, the arena. -/
structure RmAt (w u : World) (a : Nat) (P T : Int) (p r b : Nat) (ws : List Nat) : Prop where
  below : Below w.heap.size w u
  res : u.heap[w.heap.size]? = some (.cells #[.int .i64 0, .int .i64 0, .int .i64 0, .int .i64 0, .int .i64 0, .int .u64 0, .int .u64 0] 45 (0, 0))
  ar : MAt a P T p r b ws u
theorem RmAt.grow {w u u' : World} {a : Nat} {P T : Int} {p r b : Nat} {ws : List Nat} (h : RmAt w u a P T p r b ws) (bl : Below u.heap.size u u') : RmAt w u' a P T p r b ws :=
  ⟨h.below.trans (bl.mono h.below.size), (bl.block _ (lt_of_heap h.res)).trans h.res, h.ar.below bl⟩
theorem tol_next {ws : List Nat} {P T k p : Int} {j i : Nat} (h : (Lay.page P T 9 p).2 = true) (hj : (Lay.page P T 9 p).1.toNat = j) (hk : k = 9 + (i : Int)) (hi : i < 5) : Rec.tol ws P T k p = ws.getD (j + i) 0 := by
  obtain ⟨h1, h2, h3, _, _, h6⟩ := Rec.page_may h
  obtain ⟨m1, m2, m3, m4⟩ := Lay.may_iff.1 h1
  unfold Rec.tol
  rw [Rec.page_in (k := k) (p := p) h1 h2 h3 (by omega) (by omega), if_neg (show ¬ k = 14 by omega), if_pos rfl]
  rw [h6, if_neg (by omega)] at hj
  congr 1
  show (68 + 14 * T + 5 * p + (k - 9)).toNat = _
  omega
theorem at_lt14 {P T : Int} (hm : Lay.may P T = true) (p : Nat) (hp : (p : Int) < P) : Rec.atX P T p < (Lay.words P T).toNat ∧ ∀ j, j < 5 → Rec.at5 T p + j < (Lay.words P T).toNat := by
  obtain ⟨t, N, rfl, rfl, hN, e5, eX, hw⟩ := at_eqs hm
  rw [e5, eX]
  exact ⟨by omega, fun j hj => by omega⟩
theorem StoreAt.below0 {T : TypeId} {w w' : World} {p b : Nat} {s : St} (h : StoreAt T w p b s) {N : Nat} (bl : Below N w w') (hp : p < N) (hb : b < N) : StoreAt T w' p b s :=
  ⟨(bl.block _ hp).trans h.head, (bl.block _ hb).trans h.row, h.ne, h.len, h.bd⟩

set_option maxRecDepth 100000 in
set_option maxHeartbeats 4000000 in
theorem rread {a : Nat} {P T : Int} {p r b : Nat} {ws : List Nat} {w : World} (h : MAt a P T p r b ws w) (hl : ws.length = (Lay.words P T).toNat) (pg : Int) (x : Rec.Sp) (ok : Bool) (hx : Rec.read ws P T pg = (x, ok)) :
    Calls Tryd.prog 22 #[.pointer (some ⟨a, 0, none⟩), .int .i64 pg] w fun e w' => e = .returned (.tuple #[spanV x, .bool ok]) ∧ Below w.heap.size w w' := by
  have I1 : Hid (RmAt w (w.alloc (.cells #[.int .i64 0, .int .i64 0, .int .i64 0, .int .i64 0, .int .i64 0, .int .u64 0, .int .u64 0] 45)) a P T p r b ws) := hide ⟨grown1 _ _, heap_alloc_at _ _, h.below (grown1 _ _)⟩
  have HK := hide (fun w => rlpage P T 9 pg w)
  obtain ⟨s, hS, hs⟩ := h.st
  have HBD := hide (show ∀ x ∈ ws, x < 18446744073709551616 by rw [← hs]; exact hS.bd)
  have hbk : b < w.heap.size := lt_of_heap hS.row
  have hlen : ws.length ≤ 65536 := by rw [← hs]; exact hS.len
  have HL := hide hlen
  have HST := hide h.st
  have HAH := hide h.hd
  have HAL := hide (lt_of_heap h.hd)
  have HPL := hide (lt_of_heap hS.head)
  clear hS hs h hlen
  have q2 : (w.alloc (.cells #[.int .i64 0, .int .i64 0, .int .i64 0, .int .i64 0, .int .i64 0, .int .u64 0, .int .u64 0] 45)).cell? ⟨a, 2, none⟩ = some (.int .i64 P) := cell_of_heap I1.out.ar.hd
  have q3 : (w.alloc (.cells #[.int .i64 0, .int .i64 0, .int .i64 0, .int .i64 0, .int .i64 0, .int .u64 0, .int .u64 0] 45)).cell? ⟨a, 3, none⟩ = some (.int .i64 T) := cell_of_heap I1.out.ar.hd
  cases hp : (Lay.page P T 9 pg).2 with
  | false =>
    have ht : Rec.tol ws P T 9 pg = 0 := by unfold Rec.tol; rw [hp]; rfl
    unfold Rec.read at hx
    rw [if_pos ht] at hx
    simp only [Prod.mk.injEq] at hx
    obtain ⟨rfl, rfl⟩ := hx
    rw [hp] at HK
    generalize (Lay.page P T 9 pg).1 = y at *
    clear hl hp ht
    go_enter Tryd.func22, Tryd.ntmps22
    go_wp2_with fail
    clear q2 q3
    generalize w.alloc (.cells #[.int .i64 0, .int .i64 0, .int .i64 0, .int .i64 0, .int .i64 0, .int .u64 0, .int .u64 0] 45) = w1 at *
    refine (HK.out _).mono ?_
    rintro e w2 ⟨rfl, b2⟩
    have I2 := hide (I1.out.grow b2)
    clear I1 b2 HK
    have A2 := I2.out.res
    have r0 : w2.cell? ⟨w.heap.size, 0, none⟩ = some (.int .i64 0) := cell_of_heap A2
    have r1 : w2.cell? ⟨w.heap.size, 1, none⟩ = some (.int .i64 0) := cell_of_heap A2
    have r2 : w2.cell? ⟨w.heap.size, 2, none⟩ = some (.int .i64 0) := cell_of_heap A2
    have r3 : w2.cell? ⟨w.heap.size, 3, none⟩ = some (.int .i64 0) := cell_of_heap A2
    have r4 : w2.cell? ⟨w.heap.size, 4, none⟩ = some (.int .i64 0) := cell_of_heap A2
    have r5 : w2.cell? ⟨w.heap.size, 5, none⟩ = some (.int .u64 0) := cell_of_heap A2
    have r6 : w2.cell? ⟨w.heap.size, 6, none⟩ = some (.int .u64 0) := cell_of_heap A2
    have fr : ∀ o, w2.frozen? ⟨w.heap.size, o, none⟩ = false := fun o => frozen_of_heap A2
    clear A2
    go_wp2
    clear r0 r1 r2 r3 r4 r5 r6 fr
    refine putSpan (Q := bodyPost _ _ _ _ _) I2.out.below (Nat.le_refl _) I2.out.res ?_
    intro W hW hr
    have z0 : W.cell? ⟨w.heap.size, 0, none⟩ = some (.int .i64 0) := cell_of_heap hr
    have z1 : W.cell? ⟨w.heap.size, 1, none⟩ = some (.int .i64 0) := cell_of_heap hr
    have z2 : W.cell? ⟨w.heap.size, 2, none⟩ = some (.int .i64 0) := cell_of_heap hr
    have z3 : W.cell? ⟨w.heap.size, 3, none⟩ = some (.int .i64 0) := cell_of_heap hr
    have z4 : W.cell? ⟨w.heap.size, 4, none⟩ = some (.int .i64 0) := cell_of_heap hr
    have z5 : W.cell? ⟨w.heap.size, 5, none⟩ = some (.int .u64 0) := cell_of_heap hr
    have z6 : W.cell? ⟨w.heap.size, 6, none⟩ = some (.int .u64 0) := cell_of_heap hr
    refine bodyPost_ret (by simp [results, Tryd.results22, z0, z1, z2, z3, z4, z5, z6, go_sem]; try rfl) rfl ?_
    exact ⟨rfl, hW⟩
  | true =>
    obtain ⟨q1, q1'⟩ := Rec.page_lt hp
    obtain ⟨j, hj⟩ : ∃ j : Nat, (Lay.page P T 9 pg).1.toNat = j := ⟨_, rfl⟩
    have t9 := tol_next (ws := ws) (k := 9) (i := 0) hp hj rfl (by omega)
    have t10 := tol_next (ws := ws) (k := 10) (i := 1) hp hj rfl (by omega)
    have t12 := tol_next (ws := ws) (k := 12) (i := 3) hp hj rfl (by omega)
    have t13 := tol_next (ws := ws) (k := 13) (i := 4) hp hj rfl (by omega)
    obtain ⟨p1, p2, p3, _, _, p6⟩ := Rec.page_may hp
    have hin := (at_lt14 p1 pg.toNat (by omega)).2 4 (by omega)
    have hj5 : Rec.at5 T pg.toNat = j := by rw [← hj, p6, if_neg (by omega)]; unfold Rec.at5; omega
    rw [hj5, ← hl] at hin
    rw [hp, ← q1', hj] at HK
    unfold Rec.read Rec.said at hx
    rw [t9, t10, t12, t13] at hx
    rw [Nat.add_zero] at hx
    obtain ⟨m, hm⟩ : ∃ m, ws.length = j + m := ⟨ws.length - j, by omega⟩
    have hm5 : 5 ≤ m := by omega
    have HLEN := hide hm
    have hmb : j + m ≤ 65536 := by rw [← hm]; exact HL.out
    have cellAt : ∀ i, i < 5 → ∀ u : World, MAt a P T p r b ws u → u.cell? ⟨b, j + i, none⟩ = some (.int .u64 (ws.getD (j + i) 0 : Nat)) := fun i hi u hu => by
      obtain ⟨s, hS, hs⟩ := hu.st
      have h1 := cell_of_heap (o := j + i) hS.row
      rw [hs] at h1
      exact h1.trans (wordVals_get _ _ (by omega))
    have HC := hide cellAt
    have headAt : ∀ u : World, MAt a P T p r b ws u → u.cell? ⟨p, 0, none⟩ = some (.slice (some ⟨b, 0, none⟩) (j + m) (j + m)) := fun u hu => by
      obtain ⟨s, hS, hs⟩ := hu.st
      have h1 : u.cell? ⟨p, 0, none⟩ = some (.slice (some ⟨b, 0, none⟩) s.words.length s.words.length) := cell_of_heap hS.head
      rw [hs, HLEN.out] at h1
      exact h1
    have HH := hide headAt
    obtain ⟨s9, h9⟩ : ∃ x, ws.getD j 0 = x := ⟨_, rfl⟩
    obtain ⟨s10, h10⟩ : ∃ x, ws.getD (j + 1) 0 = x := ⟨_, rfl⟩
    obtain ⟨s12, h12⟩ : ∃ x, ws.getD (j + 3) 0 = x := ⟨_, rfl⟩
    obtain ⟨s13, h13⟩ : ∃ x, ws.getD (j + 4) 0 = x := ⟨_, rfl⟩
    have hs9 : s9 < 18446744073709551616 := by rw [← h9]; exact Rec.getD_bd ws HBD.out j
    have hs10 : s10 < 18446744073709551616 := by rw [← h10]; exact Rec.getD_bd ws HBD.out (j + 1)
    rw [h9, h10, h12, h13] at hx
    have H9 : Hid (∀ u : World, MAt a P T p r b ws u → u.cell? ⟨b, j, none⟩ = some (.int .u64 (s9 : Int))) := hide (fun u hu => by have := HC.out 0 (by omega) u hu; rw [Nat.add_zero, h9] at this; exact this)
    have H10 : Hid (∀ u : World, MAt a P T p r b ws u → u.cell? ⟨b, j + 1, none⟩ = some (.int .u64 (s10 : Int))) := hide (fun u hu => by have := HC.out 1 (by omega) u hu; rw [h10] at this; exact this)
    have H12 : Hid (∀ u : World, MAt a P T p r b ws u → u.cell? ⟨b, j + 3, none⟩ = some (.int .u64 (s12 : Int))) := hide (fun u hu => by have := HC.out 3 (by omega) u hu; rw [h12] at this; exact this)
    have H13 : Hid (∀ u : World, MAt a P T p r b ws u → u.cell? ⟨b, j + 4, none⟩ = some (.int .u64 (s13 : Int))) := hide (fun u hu => by have := HC.out 4 (by omega) u hu; rw [h13] at this; exact this)
    have HG := hide (fun w => rgen s9 hs9 w)
    have HP := hide (fun w => rph s9 hs9 w)
    have hpa : a ≠ w.heap.size := fun e => by have := I1.out.res; rw [← e, I1.out.ar.hd] at this; simp [MObj] at this
    clear hl hp q1 q1' hj t9 t10 t12 t13 p1 p2 p3 p6 hin hj5 hm cellAt headAt HC HL h9 h10 h12 h13
    by_cases h0 : s9 = 0
    · rw [if_pos h0] at hx
      simp only [Prod.mk.injEq] at hx
      obtain ⟨rfl, rfl⟩ := hx
      have d0 : ((s9 : Int) == 0) = true := by simp [h0]
      have HD := hide d0
      clear h0 d0
      go_enter Tryd.func22, Tryd.ntmps22
      go_wp2_with fail
      clear q2 q3
      generalize w.alloc (.cells #[.int .i64 0, .int .i64 0, .int .i64 0, .int .i64 0, .int .i64 0, .int .u64 0, .int .u64 0] 45) = w1 at *
      refine (HK.out _).mono ?_
      rintro e w2 ⟨rfl, b2⟩
      have I2 := hide (I1.out.grow b2)
      clear I1 b2 HK
      have d0 := HD.out
      have c0 : w2.cell? ⟨a, 0, none⟩ = some (.pointer (some ⟨p, 0, none⟩)) := cell_of_heap I2.out.ar.hd
      have c1 := HH.out _ I2.out.ar
      have c2 := H9.out _ I2.out.ar
      have A2 := I2.out.res
      have r0 : w2.cell? ⟨w.heap.size, 0, none⟩ = some (.int .i64 0) := cell_of_heap A2
      have r1 : w2.cell? ⟨w.heap.size, 1, none⟩ = some (.int .i64 0) := cell_of_heap A2
      have r2 : w2.cell? ⟨w.heap.size, 2, none⟩ = some (.int .i64 0) := cell_of_heap A2
      have r3 : w2.cell? ⟨w.heap.size, 3, none⟩ = some (.int .i64 0) := cell_of_heap A2
      have r4 : w2.cell? ⟨w.heap.size, 4, none⟩ = some (.int .i64 0) := cell_of_heap A2
      have r5 : w2.cell? ⟨w.heap.size, 5, none⟩ = some (.int .u64 0) := cell_of_heap A2
      have r6 : w2.cell? ⟨w.heap.size, 6, none⟩ = some (.int .u64 0) := cell_of_heap A2
      have fr : ∀ o, w2.frozen? ⟨w.heap.size, o, none⟩ = false := fun o => frozen_of_heap A2
      clear A2
      go_wp2
      clear r0 r1 r2 r3 r4 r5 r6 fr
      refine putSpan (Q := bodyPost _ _ _ _ _) I2.out.below (Nat.le_refl _) I2.out.res ?_
      intro W hW hr
      have z0 : W.cell? ⟨w.heap.size, 0, none⟩ = some (.int .i64 0) := cell_of_heap hr
      have z1 : W.cell? ⟨w.heap.size, 1, none⟩ = some (.int .i64 0) := cell_of_heap hr
      have z2 : W.cell? ⟨w.heap.size, 2, none⟩ = some (.int .i64 0) := cell_of_heap hr
      have z3 : W.cell? ⟨w.heap.size, 3, none⟩ = some (.int .i64 0) := cell_of_heap hr
      have z4 : W.cell? ⟨w.heap.size, 4, none⟩ = some (.int .i64 0) := cell_of_heap hr
      have z5 : W.cell? ⟨w.heap.size, 5, none⟩ = some (.int .u64 0) := cell_of_heap hr
      have z6 : W.cell? ⟨w.heap.size, 6, none⟩ = some (.int .u64 0) := cell_of_heap hr
      refine bodyPost_ret (by simp [results, Tryd.results22, z0, z1, z2, z3, z4, z5, z6, go_sem]; try rfl) rfl ?_
      exact ⟨rfl, hW⟩
    · rw [if_neg h0] at hx
      simp only [Prod.mk.injEq] at hx
      obtain ⟨hx, rfl⟩ := hx
      have HX := hide hx
      have d0 : ((s9 : Int) == 0) = false := by simp; omega
      have HD := hide d0
      obtain ⟨gg, hgg⟩ : ∃ x, Ph.gen s9 = x := ⟨_, rfl⟩
      obtain ⟨ph, hph⟩ : ∃ x, Ph.ph s9 = x := ⟨_, rfl⟩
      rw [hgg] at HG HX
      rw [hph] at HP HX
      clear h0 d0 hx hgg hph
      go_enter Tryd.func22, Tryd.ntmps22
      go_wp2_with fail
      clear q2 q3
      generalize w.alloc (.cells #[.int .i64 0, .int .i64 0, .int .i64 0, .int .i64 0, .int .i64 0, .int .u64 0, .int .u64 0] 45) = w1 at *
      refine (HK.out _).mono ?_
      rintro e w2 ⟨rfl, b2⟩
      have I2 := hide (I1.out.grow b2)
      clear I1 b2 HK
      have d0 := HD.out
      have c0 : w2.cell? ⟨a, 0, none⟩ = some (.pointer (some ⟨p, 0, none⟩)) := cell_of_heap I2.out.ar.hd
      have c1 := HH.out _ I2.out.ar
      have c2 := H9.out _ I2.out.ar
      go_wp2
      clear c0 c1 c2 d0 HD
      have I3 := hide (I2.out.grow ((Alike.drewN w2 1).below _))
      clear I2
      have J3 : Hid (MAt a P T p r b ws w2.drew) := hide I3.out.ar
      have hne : Nonempty (Mem (MAt a P T p r b ws)) := ⟨⟨_, J3.out⟩⟩
      have u9 := fun u : Mem (MAt a P T p r b ws) => H9.out _ u.h
      have u10 := fun u : Mem (MAt a P T p r b ws) => H10.out _ u.h
      have u12 := fun u : Mem (MAt a P T p r b ws) => H12.out _ u.h
      have u13 := fun u : Mem (MAt a P T p r b ws) => H13.out _ u.h
      refine region_start (J := MAt a P T p r b ws) (by kernel_rfl) ?_
      refine stretch (fuel := 5) (by kernel_rfl) (fun _ _ _ _ _ h => h) J3.out [0, 1, 2, 3, 4, 5, 6, 7, 8, 9, 10, 11, 12, 13, 15, 16, 17, 19, 20, 21, 22, 23, 24] (by kernel_rfl) ?_
      simp only [List.filterMap_cons, List.filterMap_nil, List.getElem?_toArray, List.getElem?_cons_zero, List.getElem?_cons_succ]
      show wpQuiet _ _ _ _ [_, _, _, _, _, _, _, _, _, _, _, _, _, _, _, _, _, _, _, _, _, _, _] _
      repeat (go_big_quiet_step (fail))
      refine wpQuiet_nil ?_
      refine wpAnyJ_writer (i := 14) rfl (by kernel_rfl) (fun K' hK => ?_)
      go_simp
      refine (HG.out _).mono ?_
      rintro e w4 ⟨rfl, rfl⟩
      refine hK _ _ J3.out ?_
      clear hK K'
      refine wpAnyJ_writer (i := 18) rfl (by kernel_rfl) (fun K' hK => ?_)
      go_simp
      refine (HP.out _).mono ?_
      rintro e w4 ⟨rfl, rfl⟩
      refine hK _ _ J3.out ?_
      clear hK K'
      refine stretch (fuel := 2) (by kernel_rfl) (fun _ _ _ _ _ h => h) J3.out [25] (by kernel_rfl) ?_
      simp only [List.filterMap_cons, List.filterMap_nil, List.getElem?_toArray, List.getElem?_cons_zero, List.getElem?_cons_succ]
      show wpQuiet _ _ _ _ [_] _
      repeat (go_big_quiet_step (fail))
      refine wpQuiet_nil ?_
      clear u9 u10 u12 u13
      have I3' : Hid (RmAt w w2.drew a P T p r b ws) := hide I3.out
      clear I3
      generalize w2.drew = w3 at *
      have A2 := I3'.out.res
      have r0 : w3.cell? ⟨w.heap.size, 0, none⟩ = some (.int .i64 0) := cell_of_heap A2
      have r1 : w3.cell? ⟨w.heap.size, 1, none⟩ = some (.int .i64 0) := cell_of_heap A2
      have r2 : w3.cell? ⟨w.heap.size, 2, none⟩ = some (.int .i64 0) := cell_of_heap A2
      have r3 : w3.cell? ⟨w.heap.size, 3, none⟩ = some (.int .i64 0) := cell_of_heap A2
      have r4 : w3.cell? ⟨w.heap.size, 4, none⟩ = some (.int .i64 0) := cell_of_heap A2
      have r5 : w3.cell? ⟨w.heap.size, 5, none⟩ = some (.int .u64 0) := cell_of_heap A2
      have r6 : w3.cell? ⟨w.heap.size, 6, none⟩ = some (.int .u64 0) := cell_of_heap A2
      have fr : ∀ o, w3.frozen? ⟨w.heap.size, o, none⟩ = false := fun o => frozen_of_heap A2
      clear A2
      refine wpAnyJ_writer (i := 26) rfl (by kernel_rfl) (fun K' hK => ?_)
      go_simp
      refine putSpan (Q := K' _) I3'.out.below (Nat.le_refl _) I3'.out.res ?_
      intro W hW hr
      have J4 : Hid (MAt a P T p r b ws W) := hide (by
        obtain ⟨s, hS, hs⟩ := HST.out
        exact ⟨(hW.block _ HAL.out).trans HAH.out, s, hS.below0 hW HPL.out hbk, hs⟩)
      refine hK _ _ J4.out ?_
      clear hK K' r0 r1 r2 r3 r4 r5 r6 fr
      refine stretch (fuel := 0) (by kernel_rfl) (fun _ _ _ _ _ h => h) J4.out [27] (by kernel_rfl) ?_
      simp only [List.filterMap_cons, List.filterMap_nil, List.getElem?_toArray, List.getElem?_cons_zero, List.getElem?_cons_succ]
      show wpQuiet _ _ _ _ [_] _
      repeat (go_big_quiet_step (fail))
      refine wpQuiet_nil ?_
      refine wpAnyJ_done (by kernel_rfl) ?_
      clear hne J3 J4
      have z0 := cell_of_heap (o := 0) hr
      have z1 := cell_of_heap (o := 1) hr
      have z2 := cell_of_heap (o := 2) hr
      have z3 := cell_of_heap (o := 3) hr
      have z4 := cell_of_heap (o := 4) hr
      have z5 := cell_of_heap (o := 5) hr
      have z6 := cell_of_heap (o := 6) hr
      simp at z0 z1 z2 z3 z4 z5 z6
      go_wp2
      refine bodyPost_ret (by simp [results, Tryd.results22, z0, z1, z2, z3, z4, z5, z6, go_sem]; try rfl) rfl ?_
      refine ⟨?_, hW⟩
      rw [← HX.out]
      rfl

end Go.Proofs.YtgdliebllmgibaaDoor
