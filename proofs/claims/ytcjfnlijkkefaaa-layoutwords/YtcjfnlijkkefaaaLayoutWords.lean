/- Each word has a name; but for the first eight it is found by it; no word beyond them has one: the law LayoutWords answers true at every input, and its arguments read behind the call as they read before. -/
import Derived.Test.YtcjfnlijkkefaaaLayOpen
import Derived.Test.YtcjfnlijkkefaaaLayMath
namespace Go.Proofs.Ytcjfnlijkkefaaa.layoutWords
open Go.ChangeShapes Go.WideShapes Go.ChangeAt Go.RowKit

set_option maxHeartbeats 2000000 in
theorem low (x y z : Nat) (_hx : x < 65536) (_hy : y < 256) (hz : z < 65536) (P T X k K : Int) (x1 : 90 ≤ X) (x2 : X ≤ 65536) (ek : (z : Int) % X = k) (_k0 : 0 ≤ k) (_k1 : k < X) (w : World)
    (h8 : decide (k < 8) = true) (eK : (K == k + 1) = true)
    (Y : Hid (∀ w, Calls Try.prog 23 #[.int .u16 (x : Int), .int .u8 (y : Int)] w fun e w' => e = .returned (.agg #[.int .i64 P, .int .i64 T]) ∧ Below w.heap.size w w'))
    (W : Hid (∀ w, Calls Try.prog 10 #[.agg #[.int .i64 P, .int .i64 T]] w fun e w' => e = .returned (.int .i64 X) ∧ Below w.heap.size w w'))
    (N : Hid (∀ w, Calls Try.prog 20 #[.agg #[.int .i64 P, .int .i64 T], .int .i64 k] w fun e w' => e = .returned (.tuple #[.agg #[.int .i64 K, .int .i64 0, .int .i64 0], .bool true]) ∧ Below w.heap.size w w'))
    (N2 : Hid (∀ w, Calls Try.prog 20 #[.agg #[.int .i64 P, .int .i64 T], .int .i64 X] w fun e w' => e = .returned (.tuple #[.agg #[.int .i64 0, .int .i64 0, .int .i64 0], .bool false]) ∧ Below w.heap.size w w'))
    (N3 : Hid (∀ w, Calls Try.prog 20 #[.agg #[.int .i64 P, .int .i64 T], .int .i64 (-1)] w fun e w' => e = .returned (.tuple #[.agg #[.int .i64 0, .int .i64 0, .int .i64 0], .bool false]) ∧ Below w.heap.size w w'))
    : Calls Try.prog 5 #[.int .u16 (x : Int), .int .u8 (y : Int), .int .u16 (z : Int)] w fun e w' => e = .returned (.bool true) ∧ Below w.heap.size w w' := by
  have Z := hide (fun w => awake8 w)
  have dX : (X == 0) = false := by simp; omega
  go_enter Try.func5, Try.ntmps5
  go_wp2_with fail
  refine (Y.out _).mono ?_
  rintro e wl ⟨rfl, hb⟩
  have L := LBox.behind hb P T 23
  have hb0 := hb
  have Lc0 := L.c0
  have Lc1 := L.c1
  go_wp2_with fail
  refine (W.out _).mono ?_
  rintro e v1 ⟨rfl, hb⟩
  replace L := L.grow hb
  have Lc0 := L.c0
  have Lc1 := L.c1
  go_wp2_with fail
  refine (N.out _).mono ?_
  rintro e v2 ⟨rfl, hb⟩
  replace L := L.grow hb
  have Lc0 := L.c0
  have Lc1 := L.c1
  have S := SBox.new v2 K 0 0
  replace L := L.grow (grown1 _ (.cells #[.int .i64 K, .int .i64 0, .int .i64 0] 30))
  have Lc0 := L.c0
  have Lc1 := L.c1
  go_wp2_with fail
  refine (N2.out _).mono ?_
  rintro e v3 ⟨rfl, hb⟩
  replace L := L.grow hb
  replace S := S.grow hb
  have Lc0 := L.c0
  have Lc1 := L.c1
  have Sc0 := S.c0
  have Sc1 := S.c1
  have Sc2 := S.c2
  replace L := L.grow (grown1 _ (.cells #[.int .i64 0, .int .i64 0, .int .i64 0] 30))
  replace S := S.grow (grown1 _ (.cells #[.int .i64 0, .int .i64 0, .int .i64 0] 30))
  have Lc0 := L.c0
  have Lc1 := L.c1
  have Sc0 := S.c0
  have Sc1 := S.c1
  have Sc2 := S.c2
  go_wp2_with fail
  refine (N3.out _).mono ?_
  rintro e v4 ⟨rfl, hb⟩
  replace L := L.grow hb
  replace S := S.grow hb
  have Lc0 := L.c0
  have Lc1 := L.c1
  have Sc0 := S.c0
  have Sc1 := S.c1
  have Sc2 := S.c2
  replace L := L.grow (grown1 _ (.cells #[.int .i64 0, .int .i64 0, .int .i64 0] 30))
  replace S := S.grow (grown1 _ (.cells #[.int .i64 0, .int .i64 0, .int .i64 0] 30))
  have Lc0 := L.c0
  have Lc1 := L.c1
  have Sc0 := S.c0
  have Sc1 := S.c1
  have Sc2 := S.c2
  go_wp2_with fail
  refine (Z.out _).mono ?_
  rintro e v6 ⟨rfl, hb⟩
  replace L := L.grow hb
  have Lc0 := L.c0
  have Lc1 := L.c1
  go_wp2
  go_ret
  exact ⟨rfl, L.below⟩

set_option maxHeartbeats 2000000 in
theorem spare (x y z : Nat) (_hx : x < 65536) (_hy : y < 256) (hz : z < 65536) (P T X k K : Int) (x1 : 90 ≤ X) (x2 : X ≤ 65536) (ek : (z : Int) % X = k) (_k0 : 0 ≤ k) (_k1 : k < X) (w : World)
    (h8 : decide (k < 8) = true) (eK : (K == k + 1) = false) (h4 : decide (4 < k) = true) (e6 : (K == 6) = true)
    (Y : Hid (∀ w, Calls Try.prog 23 #[.int .u16 (x : Int), .int .u8 (y : Int)] w fun e w' => e = .returned (.agg #[.int .i64 P, .int .i64 T]) ∧ Below w.heap.size w w'))
    (W : Hid (∀ w, Calls Try.prog 10 #[.agg #[.int .i64 P, .int .i64 T]] w fun e w' => e = .returned (.int .i64 X) ∧ Below w.heap.size w w'))
    (N : Hid (∀ w, Calls Try.prog 20 #[.agg #[.int .i64 P, .int .i64 T], .int .i64 k] w fun e w' => e = .returned (.tuple #[.agg #[.int .i64 K, .int .i64 0, .int .i64 0], .bool true]) ∧ Below w.heap.size w w'))
    (N2 : Hid (∀ w, Calls Try.prog 20 #[.agg #[.int .i64 P, .int .i64 T], .int .i64 X] w fun e w' => e = .returned (.tuple #[.agg #[.int .i64 0, .int .i64 0, .int .i64 0], .bool false]) ∧ Below w.heap.size w w'))
    (N3 : Hid (∀ w, Calls Try.prog 20 #[.agg #[.int .i64 P, .int .i64 T], .int .i64 (-1)] w fun e w' => e = .returned (.tuple #[.agg #[.int .i64 0, .int .i64 0, .int .i64 0], .bool false]) ∧ Below w.heap.size w w'))
    : Calls Try.prog 5 #[.int .u16 (x : Int), .int .u8 (y : Int), .int .u16 (z : Int)] w fun e w' => e = .returned (.bool true) ∧ Below w.heap.size w w' := by
  have Z := hide (fun w => awake8 w)
  have dX : (X == 0) = false := by simp; omega
  go_enter Try.func5, Try.ntmps5
  go_wp2_with fail
  refine (Y.out _).mono ?_
  rintro e wl ⟨rfl, hb⟩
  have L := LBox.behind hb P T 23
  have hb0 := hb
  have Lc0 := L.c0
  have Lc1 := L.c1
  go_wp2_with fail
  refine (W.out _).mono ?_
  rintro e v1 ⟨rfl, hb⟩
  replace L := L.grow hb
  have Lc0 := L.c0
  have Lc1 := L.c1
  go_wp2_with fail
  refine (N.out _).mono ?_
  rintro e v2 ⟨rfl, hb⟩
  replace L := L.grow hb
  have Lc0 := L.c0
  have Lc1 := L.c1
  have S := SBox.new v2 K 0 0
  replace L := L.grow (grown1 _ (.cells #[.int .i64 K, .int .i64 0, .int .i64 0] 30))
  have Lc0 := L.c0
  have Lc1 := L.c1
  go_wp2_with fail
  refine (N2.out _).mono ?_
  rintro e v3 ⟨rfl, hb⟩
  replace L := L.grow hb
  replace S := S.grow hb
  have Lc0 := L.c0
  have Lc1 := L.c1
  have Sc0 := S.c0
  have Sc1 := S.c1
  have Sc2 := S.c2
  replace L := L.grow (grown1 _ (.cells #[.int .i64 0, .int .i64 0, .int .i64 0] 30))
  replace S := S.grow (grown1 _ (.cells #[.int .i64 0, .int .i64 0, .int .i64 0] 30))
  have Lc0 := L.c0
  have Lc1 := L.c1
  have Sc0 := S.c0
  have Sc1 := S.c1
  have Sc2 := S.c2
  go_wp2_with fail
  refine (N3.out _).mono ?_
  rintro e v4 ⟨rfl, hb⟩
  replace L := L.grow hb
  replace S := S.grow hb
  have Lc0 := L.c0
  have Lc1 := L.c1
  have Sc0 := S.c0
  have Sc1 := S.c1
  have Sc2 := S.c2
  replace L := L.grow (grown1 _ (.cells #[.int .i64 0, .int .i64 0, .int .i64 0] 30))
  replace S := S.grow (grown1 _ (.cells #[.int .i64 0, .int .i64 0, .int .i64 0] 30))
  have Lc0 := L.c0
  have Lc1 := L.c1
  have Sc0 := S.c0
  have Sc1 := S.c1
  have Sc2 := S.c2
  go_wp2_with fail
  refine (Z.out _).mono ?_
  rintro e v6 ⟨rfl, hb⟩
  replace L := L.grow hb
  have Lc0 := L.c0
  have Lc1 := L.c1
  go_wp2
  go_ret
  exact ⟨rfl, L.below⟩

set_option maxHeartbeats 2000000 in
theorem high (x y z : Nat) (_hx : x < 65536) (_hy : y < 256) (hz : z < 65536) (P T X k K A B : Int) (x1 : 90 ≤ X) (x2 : X ≤ 65536) (ek : (z : Int) % X = k) (_k0 : 0 ≤ k) (_k1 : k < X) (w : World)
    (h8 : decide (k < 8) = false)
    (Y : Hid (∀ w, Calls Try.prog 23 #[.int .u16 (x : Int), .int .u8 (y : Int)] w fun e w' => e = .returned (.agg #[.int .i64 P, .int .i64 T]) ∧ Below w.heap.size w w'))
    (W : Hid (∀ w, Calls Try.prog 10 #[.agg #[.int .i64 P, .int .i64 T]] w fun e w' => e = .returned (.int .i64 X) ∧ Below w.heap.size w w'))
    (N : Hid (∀ w, Calls Try.prog 20 #[.agg #[.int .i64 P, .int .i64 T], .int .i64 k] w fun e w' => e = .returned (.tuple #[.agg #[.int .i64 K, .int .i64 A, .int .i64 B], .bool true]) ∧ Below w.heap.size w w'))
    (N2 : Hid (∀ w, Calls Try.prog 20 #[.agg #[.int .i64 P, .int .i64 T], .int .i64 X] w fun e w' => e = .returned (.tuple #[.agg #[.int .i64 0, .int .i64 0, .int .i64 0], .bool false]) ∧ Below w.heap.size w w'))
    (N3 : Hid (∀ w, Calls Try.prog 20 #[.agg #[.int .i64 P, .int .i64 T], .int .i64 (-1)] w fun e w' => e = .returned (.tuple #[.agg #[.int .i64 0, .int .i64 0, .int .i64 0], .bool false]) ∧ Below w.heap.size w w'))
    (Q : Hid (∀ w, Calls Try.prog 24 #[.agg #[.int .i64 P, .int .i64 T], .agg #[.int .i64 K, .int .i64 A, .int .i64 B]] w fun e w' => e = .returned (.tuple #[.int .i64 k, .bool true]) ∧ Below w.heap.size w w'))
    : Calls Try.prog 5 #[.int .u16 (x : Int), .int .u8 (y : Int), .int .u16 (z : Int)] w fun e w' => e = .returned (.bool true) ∧ Below w.heap.size w w' := by
  have Z := hide (fun w => awake8 w)
  have dX : (X == 0) = false := by simp; omega
  go_enter Try.func5, Try.ntmps5
  go_wp2_with fail
  refine (Y.out _).mono ?_
  rintro e wl ⟨rfl, hb⟩
  have L := LBox.behind hb P T 23
  have hb0 := hb
  have Lc0 := L.c0
  have Lc1 := L.c1
  go_wp2_with fail
  refine (W.out _).mono ?_
  rintro e v1 ⟨rfl, hb⟩
  replace L := L.grow hb
  have Lc0 := L.c0
  have Lc1 := L.c1
  go_wp2_with fail
  refine (N.out _).mono ?_
  rintro e v2 ⟨rfl, hb⟩
  replace L := L.grow hb
  have Lc0 := L.c0
  have Lc1 := L.c1
  have S := SBox.new v2 K A B
  replace L := L.grow (grown1 _ (.cells #[.int .i64 K, .int .i64 A, .int .i64 B] 30))
  have Lc0 := L.c0
  have Lc1 := L.c1
  go_wp2_with fail
  refine (N2.out _).mono ?_
  rintro e v3 ⟨rfl, hb⟩
  replace L := L.grow hb
  replace S := S.grow hb
  have Lc0 := L.c0
  have Lc1 := L.c1
  have Sc0 := S.c0
  have Sc1 := S.c1
  have Sc2 := S.c2
  replace L := L.grow (grown1 _ (.cells #[.int .i64 0, .int .i64 0, .int .i64 0] 30))
  replace S := S.grow (grown1 _ (.cells #[.int .i64 0, .int .i64 0, .int .i64 0] 30))
  have Lc0 := L.c0
  have Lc1 := L.c1
  have Sc0 := S.c0
  have Sc1 := S.c1
  have Sc2 := S.c2
  go_wp2_with fail
  refine (N3.out _).mono ?_
  rintro e v4 ⟨rfl, hb⟩
  replace L := L.grow hb
  replace S := S.grow hb
  have Lc0 := L.c0
  have Lc1 := L.c1
  have Sc0 := S.c0
  have Sc1 := S.c1
  have Sc2 := S.c2
  replace L := L.grow (grown1 _ (.cells #[.int .i64 0, .int .i64 0, .int .i64 0] 30))
  replace S := S.grow (grown1 _ (.cells #[.int .i64 0, .int .i64 0, .int .i64 0] 30))
  have Lc0 := L.c0
  have Lc1 := L.c1
  have Sc0 := S.c0
  have Sc1 := S.c1
  have Sc2 := S.c2
  go_wp2_with fail
  refine (Q.out _).mono ?_
  rintro e v5 ⟨rfl, hb⟩
  replace L := L.grow hb
  have Lc0 := L.c0
  have Lc1 := L.c1
  go_wp2_with fail
  refine (Z.out _).mono ?_
  rintro e v6 ⟨rfl, hb⟩
  replace L := L.grow hb
  have Lc0 := L.c0
  have Lc1 := L.c1
  go_wp2
  go_ret
  exact ⟨rfl, L.below⟩

theorem walk (x : Nat) (hx : x < 65536) (y : Nat) (hy : y < 256) (z : Nat) (hz : z < 65536) (w : World) :
    Calls Try.prog 5 #[.int .u16 (x : Int), .int .u8 (y : Int), .int .u16 (z : Int)] w fun e w' => e = .returned (.bool true) ∧ Below w.heap.size w w' := by
  have Y := hide (fun w => lay8 x y hx hy w)
  obtain ⟨P, eP⟩ : ∃ P : Int, 1 + (x : Int) % 4096 = P := ⟨_, rfl⟩
  obtain ⟨T, eT⟩ : ∃ T : Int, 1 + (y : Int) % 64 = T := ⟨_, rfl⟩
  rw [eP, eT] at Y
  have hm : Lay.may P T = true := Lay.may_iff.2 (by omega)
  obtain ⟨x1, x2⟩ := Lay.words_bd hm
  have hwt := Lay.words_in hm
  have W := hide (fun w => lwords P T w)
  have N2 := hide (fun w => lname P T (Lay.words P T) w)
  have N3 := hide (fun w => lname P T (-1) w)
  have e2 : Lay.name P T (Lay.words P T) = ((0, 0, 0), false) := if_neg (by simp [Lay.below_false.2 (.inr (Int.le_refl (Lay.words P T)))])
  have e3 : Lay.name P T (-1) = ((0, 0, 0), false) := if_neg (by simp [Lay.below_false.2 (.inl (show (-1 : Int) < 0 by decide))])
  rw [e2] at N2
  rw [e3] at N3
  have k0 : 0 ≤ (z : Int) % Lay.words P T := Int.emod_nonneg _ (by omega)
  have k1 : (z : Int) % Lay.words P T < Lay.words P T := Int.emod_lt_of_pos _ (by omega)
  obtain ⟨k, ek⟩ : ∃ k, (z : Int) % Lay.words P T = k := ⟨_, rfl⟩
  rw [ek] at k0 k1
  have N := hide (fun w => lname P T k w)
  rw [Lay.name_in hm k0 (by omega)] at N
  by_cases h8 : k < 8
  · have es : Lay.spot P T k = (if k < 5 then k + 1 else 6, 0, 0) := if_pos h8
    rw [es] at N
    by_cases h5 : k < 6
    · exact low x y z hx hy hz P T _ k _ x1 x2 ek k0 k1 w (decide_eq_true h8) (by simp; omega) Y W N N2 N3
    · exact spare x y z hx hy hz P T _ k _ x1 x2 ek k0 k1 w (decide_eq_true h8) (by simp; omega) (decide_eq_true (by omega)) (by simp; omega) Y W N N2 N3
  · obtain ⟨b0, b1, ef⟩ := Lay.spot_find hm (a := k) (by omega) (by omega)
    have Q := hide (fun w => find8 P T (Lay.spot P T k).1 (Lay.spot P T k).2.1 (Lay.spot P T k).2.2 b0 (by omega) w)
    rw [ef] at Q
    exact high x y z hx hy hz P T _ k _ _ _ x1 x2 ek k0 k1 w (decide_eq_false h8) Y W N N2 N3 Q

set_option maxRecDepth 100000 in
theorem lifted (os : Os) (started : os.Started) (H : Type) (enc : TypeId × Value → H) :
    ReturnsInHanded {} Try.checked os 5 .any (Rows.layoutWordsSpec.pre6 enc Try.prog Try.f5 Rows.layoutWordsRow.domain false) (Rows.layoutWordsSpec.post enc Try.prog Try.f5 false true false false) := by
  refine returnsInHanded_of_change (C := Try.checked) own started (by kernel_rfl) Try.func5
    (ChangeSpec.witness6 (enc := enc) (C := Try.checked) false ⟨#[], #[.int .u16 0, .int .u8 0, .int .u16 0], []⟩ 8 (by kernel_rfl) (by kernel_rfl) (by kernel_rfl) (by kernel_rfl)) ?_
  intro W base args ds gs before hval0 hW _ _
  have hval : ∀ (j : Nat) t v, Try.f5.params[j]? = some t → args[j]? = some v → Value.okWide Try.prog W .any base t v := hval0
  have hW' := hW
  obtain ⟨p, q, hA0, hV, rfl, hfz, hnd⟩ := hW
  have hA : DataW.TrodAll enc Try.prog W 0 (fun _ => true) true Try.f5.params.toList args.toList ds p := hA0
  rw [Try.params5] at hA hval
  obtain ⟨v0, vs0, d0, ds0, p0, q0, hargs, rfl, rfl, h0, r0⟩ := trodAll_cons hA
  obtain ⟨v1, vs1, d1, ds1, p1, q1, rfl, rfl, rfl, h1, r1⟩ := trodAll_cons r0
  obtain ⟨v2, vs2, d2, ds2, p2, q2, rfl, rfl, rfl, h2, r2⟩ := trodAll_cons r1
  obtain ⟨rfl, rfl, rfl⟩ := trodAll_nil r2
  obtain rfl : args = #[v0, v1, v2] := by cases args; simp_all
  obtain ⟨rfl, rfl⟩ := trodVars_none hV
  obtain ⟨a0, rfl, rfl, rfl, w0⟩ := open_int Try.underlying35 (hval 0 35 v0 rfl rfl) h0
  obtain ⟨a1, rfl, rfl, rfl, w1⟩ := open_int Try.underlying5 (hval 1 5 v1 rfl rfl) h1
  obtain ⟨a2, rfl, rfl, rfl, w2⟩ := open_int Try.underlying35 (hval 2 35 v2 rfl rfl) h2
  clear hA0 hval0
  obtain ⟨x0, hx0, rfl⟩ := u16_nat w0
  obtain ⟨x1, hx1, rfl⟩ := u8_nat w1
  obtain ⟨x2, hx2, rfl⟩ := u16_nat w2
  refine (walk x0 hx0 x1 hx1 x2 hx2 W).mono fun e W' ⟨he, bel⟩ => ?_
  subst he
  exact ⟨_, rfl, _, _, _, [], _, [], hW', trodAll_mk1 (shut_bool Try.underlying4 _), (trodAll_cons_mk (shut_int Try.underlying35 w0) (trodAll_cons_mk (shut_int Try.underlying5 w1) (trodAll_cons_mk (shut_int Try.underlying35 w2) trodAll_mk0))), rfl, bel.frame _, fun h => by cases h⟩

end Go.Proofs.Ytcjfnlijkkefaaa.layoutWords
namespace Go.Proofs.Ytcjfnlijkkefaaa

theorem layoutWords_holds : Rows.LayoutWordsSaid :=
  OpenClaim.holds_of_wide 5 Try.f5 rfl rfl rfl rfl rfl rfl rfl ⟨rfl, rfl, rfl, rfl, rfl⟩ rfl rfl rfl rfl rfl (by kernel_rfl) Try.func5 (by kernel_rfl)
    (of_decide_eq_true (by kernel_rfl)) (by unfold Func.isWrapper; first | (rw [if_pos (by decide +kernel)]; kernel_rfl) | (rw [if_neg (by decide +kernel)]; exact ⟨rfl, rfl⟩))
    (fun os started H enc _ => layoutWords.lifted os started H enc)
end Go.Proofs.Ytcjfnlijkkefaaa
