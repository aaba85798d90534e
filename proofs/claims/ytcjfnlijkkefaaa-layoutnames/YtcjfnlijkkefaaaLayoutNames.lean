/- The word of each thing is for it: the law LayoutNames answers true at every input, and its arguments read behind the call as they read before. -/
import Derived.Test.YtcjfnlijkkefaaaLayOpen
import Derived.Test.YtcjfnlijkkefaaaLaySet
namespace Go.Proofs.Ytcjfnlijkkefaaa.layoutNames
open Go.ChangeShapes Go.WideShapes Go.ChangeAt Go.RowKit

set_option maxHeartbeats 4000000 in
theorem core_false (x y a b : Nat) (ha : a < 65536) (hb8 : b < 256) (P T c par G1 t k G2 kind p G3 i G4 : Int) (w : World)
    (_t1 : 1 ≤ T) (_t2 : T ≤ 64) (_p1 : 1 ≤ P) (_p2 : P ≤ 4096) (_c1 : 0 ≤ par) (_c2 : par < 2) (_p3 : 0 ≤ p) (_p4 : p ≤ 4096)
    (ec : (a : Int) % 15 = c) (ep : (b : Int) % 2 = par) (et : (a : Int) % T = t) (ek : (b : Int) % 14 = k) (eK : 9 + (b : Int) % 6 = kind) (eP : (a : Int) % P = p) (ei : p / 64 = i)
    (Y : Hid (∀ w, Calls Try.prog 23 #[.int .u16 (x : Int), .int .u8 (y : Int)] w fun e w' => e = .returned (.agg #[.int .i64 P, .int .i64 T]) ∧ Below w.heap.size w w'))
    (H : Hid (∀ w, Calls Try.prog 12 #[.agg #[.int .i64 P, .int .i64 T], .int .i64 c, .bool false, .int .i64 par] w fun e w' => e = .returned (.tuple #[.int .i64 G1, .bool true]) ∧ Below w.heap.size w w'))
    (N1 : Hid (∀ w, Calls Try.prog 20 #[.agg #[.int .i64 P, .int .i64 T], .int .i64 G1] w fun e w' => e = .returned (.tuple #[.agg #[.int .i64 7, .int .i64 c, .int .i64 par], .bool true]) ∧ Below w.heap.size w w'))
    (C : Hid (∀ w, Calls Try.prog 14 #[.agg #[.int .i64 P, .int .i64 T], .int .i64 t, .int .i64 k] w fun e w' => e = .returned (.tuple #[.int .i64 G2, .bool true]) ∧ Below w.heap.size w w'))
    (N2 : Hid (∀ w, Calls Try.prog 20 #[.agg #[.int .i64 P, .int .i64 T], .int .i64 G2] w fun e w' => e = .returned (.tuple #[.agg #[.int .i64 8, .int .i64 t, .int .i64 k], .bool true]) ∧ Below w.heap.size w w'))
    (G : Hid (∀ w, Calls Try.prog 16 #[.agg #[.int .i64 P, .int .i64 T], .int .i64 kind, .int .i64 p] w fun e w' => e = .returned (.tuple #[.int .i64 G3, .bool true]) ∧ Below w.heap.size w w'))
    (N3 : Hid (∀ w, Calls Try.prog 20 #[.agg #[.int .i64 P, .int .i64 T], .int .i64 G3] w fun e w' => e = .returned (.tuple #[.agg #[.int .i64 kind, .int .i64 p, .int .i64 0], .bool true]) ∧ Below w.heap.size w w'))
    (D : Hid (∀ w, Calls Try.prog 18 #[.agg #[.int .i64 P, .int .i64 T], .int .i64 (15 + par), .int .i64 i] w fun e w' => e = .returned (.tuple #[.int .i64 G4, .bool true]) ∧ Below w.heap.size w w'))
    (N4 : Hid (∀ w, Calls Try.prog 20 #[.agg #[.int .i64 P, .int .i64 T], .int .i64 G4] w fun e w' => e = .returned (.tuple #[.agg #[.int .i64 (15 + par), .int .i64 i, .int .i64 0], .bool true]) ∧ Below w.heap.size w w'))
    : Calls Try.prog 4 #[.int .u16 (x : Int), .int .u8 (y : Int), .int .u16 (a : Int), .int .u8 (b : Int), .bool false] w fun e w' => e = .returned (.bool true) ∧ Below w.heap.size w w' := by
  have Z := hide (fun w => awake8 w)
  have dT : (T == 0) = false := by simp; omega
  have dP : (P == 0) = false := by simp; omega
  go_enter Try.func4, Try.ntmps4
  go_wp2_with fail
  refine (Y.out _).mono ?_
  rintro e wl ⟨rfl, hb⟩
  have L := LBox.behind hb P T 23
  have hb0 := hb
  have Lc0 := L.c0
  have Lc1 := L.c1
  go_wp2_with fail
  refine (H.out _).mono ?_
  rintro e v1 ⟨rfl, hb⟩
  replace L := L.grow hb
  have Lc0 := L.c0
  have Lc1 := L.c1
  go_wp2_with fail
  refine (N1.out _).mono ?_
  rintro e v2 ⟨rfl, hb⟩
  replace L := L.grow hb
  have Lc0 := L.c0
  have Lc1 := L.c1
  have S := SBox.first v2 7 c par 7 c par
  have hlt := block_lt_of_cell L.c0
  have hlt : wl.heap.size < v2.heap.size := hlt
  have hlw : w.heap.size ≤ wl.heap.size := hb0.size
  replace L := (L.grow (grown1 _ (.cells #[.int .i64 7, .int .i64 c, .int .i64 par] 30))).grow (grown1 _ (.cells #[.int .i64 7, .int .i64 c, .int .i64 par] 30))
  have Lc0 := L.c0
  have Lc1 := L.c1
  have Sc0 := S.c0
  have Sc1 := S.c1
  have Sc2 := S.c2
  go_wp2_with fail
  refine (C.out _).mono ?_
  rintro e v3 ⟨rfl, hb⟩
  replace L := L.grow hb
  replace S := S.grow hb
  have Lc0 := L.c0
  have Lc1 := L.c1
  have Sc0 := S.c0
  have Sc1 := S.c1
  have Sc2 := S.c2
  go_wp2_with fail
  refine (N2.out _).mono ?_
  rintro e v4 ⟨rfl, hb⟩
  replace L := L.grow hb
  replace S := S.grow hb
  have Lc0 := L.c0
  have Lc1 := L.c1
  have Sc0 := S.c0
  have Sc1 := S.c1
  have Sc2 := S.c2
  have Sf := S.fr
  replace L := L.set3 (r := v2.heap.size) hlt hlw (.int .i64 8) (.int .i64 t) (.int .i64 k)
  replace S := S.set3 8 t k
  have Lc0 := L.c0
  have Lc1 := L.c1
  have Sc0 := S.c0
  have Sc1 := S.c1
  have Sc2 := S.c2
  go_wp2_with fail
  go_quiet (fail)
  replace L := L.drewN nq
  replace S := S.drewN nq
  have Lc0 := L.c0
  have Lc1 := L.c1
  go_wp2_with fail
  refine (G.out _).mono ?_
  rintro e v5 ⟨rfl, hb⟩
  replace L := L.grow hb
  replace S := S.grow hb
  have Lc0 := L.c0
  have Lc1 := L.c1
  have Sc0 := S.c0
  have Sc1 := S.c1
  have Sc2 := S.c2
  go_wp2_with fail
  refine (N3.out _).mono ?_
  rintro e v6 ⟨rfl, hb⟩
  replace L := L.grow hb
  replace S := S.grow hb
  have Lc0 := L.c0
  have Lc1 := L.c1
  have Sc0 := S.c0
  have Sc1 := S.c1
  have Sc2 := S.c2
  have Sf := S.fr
  replace L := L.set3 (r := v2.heap.size) hlt hlw (.int .i64 kind) (.int .i64 p) (.int .i64 0)
  replace S := S.set3 kind p 0
  have Lc0 := L.c0
  have Lc1 := L.c1
  have Sc0 := S.c0
  have Sc1 := S.c1
  have Sc2 := S.c2
  go_wp2_with fail
  refine (D.out _).mono ?_
  rintro e v7 ⟨rfl, hb⟩
  replace L := L.grow hb
  replace S := S.grow hb
  have Lc0 := L.c0
  have Lc1 := L.c1
  have Sc0 := S.c0
  have Sc1 := S.c1
  have Sc2 := S.c2
  go_wp2_with fail
  refine (N4.out _).mono ?_
  rintro e v8 ⟨rfl, hb⟩
  replace L := L.grow hb
  replace S := S.grow hb
  have Lc0 := L.c0
  have Lc1 := L.c1
  have Sc0 := S.c0
  have Sc1 := S.c1
  have Sc2 := S.c2
  have Sf := S.fr
  replace L := L.set3 (r := v2.heap.size) hlt hlw (.int .i64 (15 + par)) (.int .i64 i) (.int .i64 0)
  replace S := S.set3 (15 + par) i 0
  have Lc0 := L.c0
  have Lc1 := L.c1
  have Sc0 := S.c0
  have Sc1 := S.c1
  have Sc2 := S.c2
  go_wp2_with fail
  refine (Z.out _).mono ?_
  rintro e v9 ⟨rfl, hb⟩
  replace L := L.grow hb
  have Lc0 := L.c0
  have Lc1 := L.c1
  go_wp2
  go_ret
  exact ⟨rfl, L.below⟩

set_option maxHeartbeats 4000000 in
theorem core_true (x y a b : Nat) (ha : a < 65536) (hb8 : b < 256) (P T c par G1 t k G2 kind p G3 i G4 : Int) (w : World)
    (_t1 : 1 ≤ T) (_t2 : T ≤ 64) (_p1 : 1 ≤ P) (_p2 : P ≤ 4096) (_c1 : 0 ≤ par) (_c2 : par < 2) (_p3 : 0 ≤ p) (_p4 : p ≤ 4096)
    (ec : (a : Int) % 15 = c) (ep : (b : Int) % 2 = par) (et : (a : Int) % T = t) (ek : (b : Int) % 14 = k) (eK : 9 + (b : Int) % 6 = kind) (eP : (a : Int) % P = p) (ei : p / 64 = i)
    (Y : Hid (∀ w, Calls Try.prog 23 #[.int .u16 (x : Int), .int .u8 (y : Int)] w fun e w' => e = .returned (.agg #[.int .i64 P, .int .i64 T]) ∧ Below w.heap.size w w'))
    (H : Hid (∀ w, Calls Try.prog 12 #[.agg #[.int .i64 P, .int .i64 T], .int .i64 c, .bool true, .int .i64 par] w fun e w' => e = .returned (.tuple #[.int .i64 G1, .bool true]) ∧ Below w.heap.size w w'))
    (N1 : Hid (∀ w, Calls Try.prog 20 #[.agg #[.int .i64 P, .int .i64 T], .int .i64 G1] w fun e w' => e = .returned (.tuple #[.agg #[.int .i64 7, .int .i64 c, .int .i64 (par + 2)], .bool true]) ∧ Below w.heap.size w w'))
    (C : Hid (∀ w, Calls Try.prog 14 #[.agg #[.int .i64 P, .int .i64 T], .int .i64 t, .int .i64 k] w fun e w' => e = .returned (.tuple #[.int .i64 G2, .bool true]) ∧ Below w.heap.size w w'))
    (N2 : Hid (∀ w, Calls Try.prog 20 #[.agg #[.int .i64 P, .int .i64 T], .int .i64 G2] w fun e w' => e = .returned (.tuple #[.agg #[.int .i64 8, .int .i64 t, .int .i64 k], .bool true]) ∧ Below w.heap.size w w'))
    (G : Hid (∀ w, Calls Try.prog 16 #[.agg #[.int .i64 P, .int .i64 T], .int .i64 kind, .int .i64 p] w fun e w' => e = .returned (.tuple #[.int .i64 G3, .bool true]) ∧ Below w.heap.size w w'))
    (N3 : Hid (∀ w, Calls Try.prog 20 #[.agg #[.int .i64 P, .int .i64 T], .int .i64 G3] w fun e w' => e = .returned (.tuple #[.agg #[.int .i64 kind, .int .i64 p, .int .i64 0], .bool true]) ∧ Below w.heap.size w w'))
    (D : Hid (∀ w, Calls Try.prog 18 #[.agg #[.int .i64 P, .int .i64 T], .int .i64 (15 + par), .int .i64 i] w fun e w' => e = .returned (.tuple #[.int .i64 G4, .bool true]) ∧ Below w.heap.size w w'))
    (N4 : Hid (∀ w, Calls Try.prog 20 #[.agg #[.int .i64 P, .int .i64 T], .int .i64 G4] w fun e w' => e = .returned (.tuple #[.agg #[.int .i64 (15 + par), .int .i64 i, .int .i64 0], .bool true]) ∧ Below w.heap.size w w'))
    : Calls Try.prog 4 #[.int .u16 (x : Int), .int .u8 (y : Int), .int .u16 (a : Int), .int .u8 (b : Int), .bool true] w fun e w' => e = .returned (.bool true) ∧ Below w.heap.size w w' := by
  have Z := hide (fun w => awake8 w)
  have dT : (T == 0) = false := by simp; omega
  have dP : (P == 0) = false := by simp; omega
  go_enter Try.func4, Try.ntmps4
  go_wp2_with fail
  refine (Y.out _).mono ?_
  rintro e wl ⟨rfl, hb⟩
  have L := LBox.behind hb P T 23
  have hb0 := hb
  have Lc0 := L.c0
  have Lc1 := L.c1
  go_wp2_with fail
  refine (H.out _).mono ?_
  rintro e v1 ⟨rfl, hb⟩
  replace L := L.grow hb
  have Lc0 := L.c0
  have Lc1 := L.c1
  go_wp2_with fail
  refine (N1.out _).mono ?_
  rintro e v2 ⟨rfl, hb⟩
  replace L := L.grow hb
  have Lc0 := L.c0
  have Lc1 := L.c1
  have S := SBox.first v2 7 c (par + 2) 7 c (par + 2)
  have hlt := block_lt_of_cell L.c0
  have hlt : wl.heap.size < v2.heap.size := hlt
  have hlw : w.heap.size ≤ wl.heap.size := hb0.size
  replace L := (L.grow (grown1 _ (.cells #[.int .i64 7, .int .i64 c, .int .i64 (par + 2)] 30))).grow (grown1 _ (.cells #[.int .i64 7, .int .i64 c, .int .i64 (par + 2)] 30))
  have Lc0 := L.c0
  have Lc1 := L.c1
  have Sc0 := S.c0
  have Sc1 := S.c1
  have Sc2 := S.c2
  go_wp2_with fail
  refine (C.out _).mono ?_
  rintro e v3 ⟨rfl, hb⟩
  replace L := L.grow hb
  replace S := S.grow hb
  have Lc0 := L.c0
  have Lc1 := L.c1
  have Sc0 := S.c0
  have Sc1 := S.c1
  have Sc2 := S.c2
  go_wp2_with fail
  refine (N2.out _).mono ?_
  rintro e v4 ⟨rfl, hb⟩
  replace L := L.grow hb
  replace S := S.grow hb
  have Lc0 := L.c0
  have Lc1 := L.c1
  have Sc0 := S.c0
  have Sc1 := S.c1
  have Sc2 := S.c2
  have Sf := S.fr
  replace L := L.set3 (r := v2.heap.size) hlt hlw (.int .i64 8) (.int .i64 t) (.int .i64 k)
  replace S := S.set3 8 t k
  have Lc0 := L.c0
  have Lc1 := L.c1
  have Sc0 := S.c0
  have Sc1 := S.c1
  have Sc2 := S.c2
  go_wp2_with fail
  go_quiet (fail)
  replace L := L.drewN nq
  replace S := S.drewN nq
  have Lc0 := L.c0
  have Lc1 := L.c1
  go_wp2_with fail
  refine (G.out _).mono ?_
  rintro e v5 ⟨rfl, hb⟩
  replace L := L.grow hb
  replace S := S.grow hb
  have Lc0 := L.c0
  have Lc1 := L.c1
  have Sc0 := S.c0
  have Sc1 := S.c1
  have Sc2 := S.c2
  go_wp2_with fail
  refine (N3.out _).mono ?_
  rintro e v6 ⟨rfl, hb⟩
  replace L := L.grow hb
  replace S := S.grow hb
  have Lc0 := L.c0
  have Lc1 := L.c1
  have Sc0 := S.c0
  have Sc1 := S.c1
  have Sc2 := S.c2
  have Sf := S.fr
  replace L := L.set3 (r := v2.heap.size) hlt hlw (.int .i64 kind) (.int .i64 p) (.int .i64 0)
  replace S := S.set3 kind p 0
  have Lc0 := L.c0
  have Lc1 := L.c1
  have Sc0 := S.c0
  have Sc1 := S.c1
  have Sc2 := S.c2
  go_wp2_with fail
  refine (D.out _).mono ?_
  rintro e v7 ⟨rfl, hb⟩
  replace L := L.grow hb
  replace S := S.grow hb
  have Lc0 := L.c0
  have Lc1 := L.c1
  have Sc0 := S.c0
  have Sc1 := S.c1
  have Sc2 := S.c2
  go_wp2_with fail
  refine (N4.out _).mono ?_
  rintro e v8 ⟨rfl, hb⟩
  replace L := L.grow hb
  replace S := S.grow hb
  have Lc0 := L.c0
  have Lc1 := L.c1
  have Sc0 := S.c0
  have Sc1 := S.c1
  have Sc2 := S.c2
  have Sf := S.fr
  replace L := L.set3 (r := v2.heap.size) hlt hlw (.int .i64 (15 + par)) (.int .i64 i) (.int .i64 0)
  replace S := S.set3 (15 + par) i 0
  have Lc0 := L.c0
  have Lc1 := L.c1
  have Sc0 := S.c0
  have Sc1 := S.c1
  have Sc2 := S.c2
  go_wp2_with fail
  refine (Z.out _).mono ?_
  rintro e v9 ⟨rfl, hb⟩
  replace L := L.grow hb
  have Lc0 := L.c0
  have Lc1 := L.c1
  go_wp2
  go_ret
  exact ⟨rfl, L.below⟩

theorem walk (x : Nat) (hx : x < 65536) (y : Nat) (hy : y < 256) (a : Nat) (ha : a < 65536) (b : Nat) (hb : b < 256) (f : Bool) (w : World) :
    Calls Try.prog 4 #[.int .u16 (x : Int), .int .u8 (y : Int), .int .u16 (a : Int), .int .u8 (b : Int), .bool f] w fun e w' => e = .returned (.bool true) ∧ Below w.heap.size w w' := by
  have Y := hide (fun w => lay8 x y hx hy w)
  obtain ⟨P, eP⟩ : ∃ P : Int, 1 + (x : Int) % 4096 = P := ⟨_, rfl⟩
  obtain ⟨T, eT⟩ : ∃ T : Int, 1 + (y : Int) % 64 = T := ⟨_, rfl⟩
  rw [eP, eT] at Y
  have hP : 1 ≤ P ∧ P ≤ 4096 := by omega
  have hT : 1 ≤ T ∧ T ≤ 64 := by omega
  obtain ⟨p1, p2⟩ := hP
  obtain ⟨t1, t2⟩ := hT
  have hm : Lay.may P T = true := Lay.may_iff.2 ⟨p1, p2, t1, t2⟩
  obtain ⟨n1, n2, n3⟩ := Lay.maps_bd p1 p2
  obtain ⟨c, ec⟩ : ∃ c : Int, (a : Int) % 15 = c := ⟨_, rfl⟩
  obtain ⟨par, ep⟩ : ∃ c : Int, (b : Int) % 2 = c := ⟨_, rfl⟩
  have u0 : 0 ≤ (a : Int) % T := Int.emod_nonneg _ (by omega)
  have u1 : (a : Int) % T < T := Int.emod_lt_of_pos _ (by omega)
  have v0 : 0 ≤ (a : Int) % P := Int.emod_nonneg _ (by omega)
  have v1 : (a : Int) % P < P := Int.emod_lt_of_pos _ (by omega)
  obtain ⟨t, et⟩ : ∃ c : Int, (a : Int) % T = c := ⟨_, rfl⟩
  obtain ⟨k, ek⟩ : ∃ c : Int, (b : Int) % 14 = c := ⟨_, rfl⟩
  obtain ⟨kind, eK⟩ : ∃ c : Int, 9 + (b : Int) % 6 = c := ⟨_, rfl⟩
  obtain ⟨p, eQ⟩ : ∃ c : Int, (a : Int) % P = c := ⟨_, rfl⟩
  obtain ⟨i, ei⟩ : ∃ c : Int, p / 64 = c := ⟨_, rfl⟩
  rw [et] at u0 u1
  rw [eQ] at v0 v1
  have hc : 0 ≤ c ∧ c < 15 := by omega
  have hpar : 0 ≤ par ∧ par < 2 := by omega
  have hk : 0 ≤ k ∧ k < 14 := by omega
  have hkind : 9 ≤ kind ∧ kind ≤ 14 := by omega
  have hi : 0 ≤ i ∧ i < Lay.maps P := by omega
  have hk2 : 15 + par = 15 ∨ 15 + par = 16 := by omega
  clear eP eT hx hy
  -- the words
  have H := hide (fun w => lhead P T c f par w)
  rw [Lay.head_in f hm hc.1 hc.2 hpar.1 hpar.2] at H
  have C := hide (fun w => lcache P T t k w)
  rw [Lay.cache_in hm u0 u1 hk.1 hk.2] at C
  have G := hide (fun w => lpage P T kind p w)
  rw [Lay.page_in hm v0 v1 hkind.1 hkind.2] at G
  have D := hide (fun w => lmap P T (15 + par) i w)
  rw [Lay.map_in hm hi.1 hi.2 hk2] at D
  -- their names
  have s1 := Lay.spot_head P T f hc.1 hc.2 hpar.1 hpar.2
  have s2 := Lay.spot_cache P u0 u1 hk.1 hk.2
  have s3 := Lay.spot_page (P := P) (T := T) t1 v0 v1 hkind.1 hkind.2
  have s4 := Lay.spot_map (P := P) (T := T) p1 t1 hi.1 hi.2 hk2
  have d := Lay.two_bd f
  have N1 := hide (fun w => lname P T (8 + 4 * c + par + Lay.two f) w)
  rw [Lay.name_in hm (by omega) (by unfold Lay.total; omega), s1] at N1
  have N2 := hide (fun w => lname P T (68 + 14 * t + k) w)
  rw [Lay.name_in hm (by omega) (by unfold Lay.total; omega), s2] at N2
  have N3 := hide (fun w => lname P T (if kind = 14 then Lay.index P T + p else Lay.states T + 5 * p + (kind - 9)) w)
  rw [Lay.name_in hm (by unfold Lay.index Lay.states; split <;> omega) (by unfold Lay.index Lay.states Lay.total; split <;> omega), s3] at N3
  have N4 := hide (fun w => lname P T (if 15 + par = 16 then Lay.gone P T + i else Lay.used P T + i) w)
  rw [Lay.name_in hm (by unfold Lay.gone Lay.used; split <;> omega) (by unfold Lay.gone Lay.used Lay.total; split <;> omega), s4] at N4
  cases f
  · exact core_false x y a b ha hb P T c par _ t k _ kind p _ i _ w t1 t2 p1 p2 hpar.1 hpar.2 v0 (by omega) ec ep et ek eK eQ ei Y H (by simpa [Lay.two] using N1) C N2 G N3 D N4
  · exact core_true x y a b ha hb P T c par _ t k _ kind p _ i _ w t1 t2 p1 p2 hpar.1 hpar.2 v0 (by omega) ec ep et ek eK eQ ei Y H N1 C N2 G N3 D N4

set_option maxRecDepth 100000 in
theorem lifted (os : Os) (started : os.Started) (H : Type) (enc : TypeId × Value → H) :
    ReturnsInHanded {} Try.checked os 4 .any (Rows.layoutNamesSpec.pre6 enc Try.prog Try.f4 Rows.layoutNamesRow.domain false) (Rows.layoutNamesSpec.post enc Try.prog Try.f4 false true false false) := by
  refine returnsInHanded_of_change (C := Try.checked) own started (by kernel_rfl) Try.func4
    (ChangeSpec.witness6 (enc := enc) (C := Try.checked) false ⟨#[], #[.int .u16 0, .int .u8 0, .int .u16 0, .int .u8 0, .bool false], []⟩ 8 (by kernel_rfl) (by kernel_rfl) (by kernel_rfl) (by kernel_rfl)) ?_
  intro W base args ds gs before hval0 hW _ _
  have hval : ∀ (j : Nat) t v, Try.f4.params[j]? = some t → args[j]? = some v → Value.okWide Try.prog W .any base t v := hval0
  have hW' := hW
  obtain ⟨p, q, hA0, hV, rfl, hfz, hnd⟩ := hW
  have hA : DataW.TrodAll enc Try.prog W 0 (fun _ => true) true Try.f4.params.toList args.toList ds p := hA0
  rw [Try.params4] at hA hval
  obtain ⟨v0, vs0, d0, ds0, p0, q0, hargs, rfl, rfl, h0, r0⟩ := trodAll_cons hA
  obtain ⟨v1, vs1, d1, ds1, p1, q1, rfl, rfl, rfl, h1, r1⟩ := trodAll_cons r0
  obtain ⟨v2, vs2, d2, ds2, p2, q2, rfl, rfl, rfl, h2, r2⟩ := trodAll_cons r1
  obtain ⟨v3, vs3, d3, ds3, p3, q3, rfl, rfl, rfl, h3, r3⟩ := trodAll_cons r2
  obtain ⟨v4, vs4, d4, ds4, p4, q4, rfl, rfl, rfl, h4, r4⟩ := trodAll_cons r3
  obtain ⟨rfl, rfl, rfl⟩ := trodAll_nil r4
  obtain rfl : args = #[v0, v1, v2, v3, v4] := by cases args; simp_all
  obtain ⟨rfl, rfl⟩ := trodVars_none hV
  obtain ⟨a0, rfl, rfl, rfl, w0⟩ := open_int Try.underlying35 (hval 0 35 v0 rfl rfl) h0
  obtain ⟨a1, rfl, rfl, rfl, w1⟩ := open_int Try.underlying5 (hval 1 5 v1 rfl rfl) h1
  obtain ⟨a2, rfl, rfl, rfl, w2⟩ := open_int Try.underlying35 (hval 2 35 v2 rfl rfl) h2
  obtain ⟨a3, rfl, rfl, rfl, w3⟩ := open_int Try.underlying5 (hval 3 5 v3 rfl rfl) h3
  obtain ⟨a4, rfl, rfl, rfl⟩ := open_bool Try.underlying4 (hval 4 4 v4 rfl rfl) h4
  clear hA0 hval0
  obtain ⟨x0, hx0, rfl⟩ := u16_nat w0
  obtain ⟨x1, hx1, rfl⟩ := u8_nat w1
  obtain ⟨x2, hx2, rfl⟩ := u16_nat w2
  obtain ⟨x3, hx3, rfl⟩ := u8_nat w3
  refine (walk x0 hx0 x1 hx1 x2 hx2 x3 hx3 a4 W).mono fun e W' ⟨he, bel⟩ => ?_
  subst he
  exact ⟨_, rfl, _, _, _, [], _, [], hW', trodAll_mk1 (shut_bool Try.underlying4 _), (trodAll_cons_mk (shut_int Try.underlying35 w0) (trodAll_cons_mk (shut_int Try.underlying5 w1) (trodAll_cons_mk (shut_int Try.underlying35 w2) (trodAll_cons_mk (shut_int Try.underlying5 w3) (trodAll_cons_mk (shut_bool Try.underlying4 _) trodAll_mk0))))), rfl, bel.frame _, fun h => by cases h⟩

end Go.Proofs.Ytcjfnlijkkefaaa.layoutNames
namespace Go.Proofs.Ytcjfnlijkkefaaa

theorem layoutNames_holds : Rows.LayoutNamesSaid :=
  OpenClaim.holds_of_wide 4 Try.f4 rfl rfl rfl rfl rfl rfl rfl ⟨rfl, rfl, rfl, rfl, rfl⟩ rfl rfl rfl rfl rfl (by kernel_rfl) Try.func4 (by kernel_rfl)
    (of_decide_eq_true (by kernel_rfl)) (by unfold Func.isWrapper; first | (rw [if_pos (by decide +kernel)]; kernel_rfl) | (rw [if_neg (by decide +kernel)]; exact ⟨rfl, rfl⟩))
    (fun os started H enc _ => layoutNames.lifted os started H enc)
end Go.Proofs.Ytcjfnlijkkefaaa
