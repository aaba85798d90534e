/- Of any layout, and any numbers: whether it may be, how many words it has, where each thing's word is, what a word is for, are the document's: the law LayoutAll answers true at every input, and its arguments read behind the call as they read before. -/
import Derived.Test.YtcjfnlijkkefaaaLayOpen
import Derived.Test.YtcjfnlijkkefaaaLayRefName
namespace Go.Proofs.Ytcjfnlijkkefaaa.layoutAll
open Go.ChangeShapes Go.WideShapes Go.ChangeAt Go.RowKit

set_option maxHeartbeats 4000000 in
theorem core (P T k a b : Int) (f m o1 o2 o3 o4 o5 : Bool) (X c1 c2 c3 c4 K A B : Int) (w : World)
    (M : Hid (∀ w, Calls Try.prog 8 #[.agg #[.int .i64 P, .int .i64 T]] w fun e w' => e = .returned (.bool m) ∧ Below w.heap.size w w'))
    (RM : Hid (∀ w, Calls Try.prog 9 #[.agg #[.int .i64 P, .int .i64 T]] w fun e w' => e = .returned (.bool m) ∧ Below w.heap.size w w'))
    (W : Hid (∀ w, Calls Try.prog 10 #[.agg #[.int .i64 P, .int .i64 T]] w fun e w' => e = .returned (.int .i64 X) ∧ Below w.heap.size w w'))
    (RW : Hid (∀ w, Calls Try.prog 11 #[.agg #[.int .i64 P, .int .i64 T]] w fun e w' => e = .returned (.int .i64 X) ∧ Below w.heap.size w w'))
    (H : Hid (∀ w, Calls Try.prog 12 #[.agg #[.int .i64 P, .int .i64 T], .int .i64 a, .bool f, .int .i64 b] w fun e w' => e = .returned (.tuple #[.int .i64 c1, .bool o1]) ∧ Below w.heap.size w w'))
    (RH : Hid (∀ w, Calls Try.prog 13 #[.agg #[.int .i64 P, .int .i64 T], .int .i64 a, .bool f, .int .i64 b] w fun e w' => e = .returned (.tuple #[.int .i64 c1, .bool o1]) ∧ Below w.heap.size w w'))
    (C : Hid (∀ w, Calls Try.prog 14 #[.agg #[.int .i64 P, .int .i64 T], .int .i64 a, .int .i64 b] w fun e w' => e = .returned (.tuple #[.int .i64 c2, .bool o2]) ∧ Below w.heap.size w w'))
    (RC : Hid (∀ w, Calls Try.prog 15 #[.agg #[.int .i64 P, .int .i64 T], .int .i64 a, .int .i64 b] w fun e w' => e = .returned (.tuple #[.int .i64 c2, .bool o2]) ∧ Below w.heap.size w w'))
    (G : Hid (∀ w, Calls Try.prog 16 #[.agg #[.int .i64 P, .int .i64 T], .int .i64 k, .int .i64 a] w fun e w' => e = .returned (.tuple #[.int .i64 c3, .bool o3]) ∧ Below w.heap.size w w'))
    (RG : Hid (∀ w, Calls Try.prog 17 #[.agg #[.int .i64 P, .int .i64 T], .int .i64 k, .int .i64 a] w fun e w' => e = .returned (.tuple #[.int .i64 c3, .bool o3]) ∧ Below w.heap.size w w'))
    (D : Hid (∀ w, Calls Try.prog 18 #[.agg #[.int .i64 P, .int .i64 T], .int .i64 k, .int .i64 a] w fun e w' => e = .returned (.tuple #[.int .i64 c4, .bool o4]) ∧ Below w.heap.size w w'))
    (RD : Hid (∀ w, Calls Try.prog 19 #[.agg #[.int .i64 P, .int .i64 T], .int .i64 k, .int .i64 a] w fun e w' => e = .returned (.tuple #[.int .i64 c4, .bool o4]) ∧ Below w.heap.size w w'))
    (N : Hid (∀ w, Calls Try.prog 20 #[.agg #[.int .i64 P, .int .i64 T], .int .i64 a] w fun e w' => e = .returned (.tuple #[.agg #[.int .i64 K, .int .i64 A, .int .i64 B], .bool o5]) ∧ Below w.heap.size w w'))
    (RN : Hid (∀ w, Calls Try.prog 21 #[.agg #[.int .i64 P, .int .i64 T], .int .i64 a] w fun e w' => e = .returned (.tuple #[.agg #[.int .i64 K, .int .i64 A, .int .i64 B], .bool o5]) ∧ Below w.heap.size w w'))
    : Calls Try.prog 3 #[.agg #[.int .i64 P, .int .i64 T], .int .i64 k, .int .i64 a, .int .i64 b, .bool f] w fun e w' => e = .returned (.bool true) ∧ Below w.heap.size w w' := by
  have Z := hide (fun w => awake8 w)
  go_enter Try.func3, Try.ntmps3
  go_wp2_with fail
  have L := LBox.new w P T 23
  generalize (w.alloc (.cells #[.int .i64 P, .int .i64 T] 23)) = w1 at *
  have hne : Nonempty (Over w1) := ⟨⟨_, Below.refl _ _⟩⟩
  have c0 := fun u => over_cell L.c0 u
  have c1 := fun u => over_cell L.c1 u
  refine over_region (by kernel_rfl) (by kernel_rfl) ?_
  repeat (go_big_quiet_step (first | (go_at_call 8; exact over_call _ (M.out _)) | (go_at_call 9; exact over_call _ (RM.out _)) | (go_at_call 10; exact over_call _ (W.out _)) | (go_at_call 11; exact over_call _ (RW.out _))))
  refine wpQuiet_nil ?_
  rintro _ ⟨u, rfl⟩
  replace L := L.grow u.h
  clear c0 c1 hne
  have Lc0 := L.c0
  have Lc1 := L.c1
  generalize u.w' = w2 at *
  go_wp2_with fail
  refine (H.out _).mono ?_
  rintro e vH ⟨rfl, hb⟩
  replace L := L.grow hb
  have Lc0 := L.c0
  have Lc1 := L.c1
  go_wp2_with fail
  refine (RH.out _).mono ?_
  rintro e vRH ⟨rfl, hb⟩
  replace L := L.grow hb
  have Lc0 := L.c0
  have Lc1 := L.c1
  go_wp2_with fail
  refine (C.out _).mono ?_
  rintro e vC ⟨rfl, hb⟩
  replace L := L.grow hb
  have Lc0 := L.c0
  have Lc1 := L.c1
  go_wp2_with fail
  refine (RC.out _).mono ?_
  rintro e vRC ⟨rfl, hb⟩
  replace L := L.grow hb
  have Lc0 := L.c0
  have Lc1 := L.c1
  go_wp2_with fail
  refine (G.out _).mono ?_
  rintro e vG ⟨rfl, hb⟩
  replace L := L.grow hb
  have Lc0 := L.c0
  have Lc1 := L.c1
  go_wp2_with fail
  refine (RG.out _).mono ?_
  rintro e vRG ⟨rfl, hb⟩
  replace L := L.grow hb
  have Lc0 := L.c0
  have Lc1 := L.c1
  go_wp2_with fail
  refine (D.out _).mono ?_
  rintro e vD ⟨rfl, hb⟩
  replace L := L.grow hb
  have Lc0 := L.c0
  have Lc1 := L.c1
  go_wp2_with fail
  refine (RD.out _).mono ?_
  rintro e vRD ⟨rfl, hb⟩
  replace L := L.grow hb
  have Lc0 := L.c0
  have Lc1 := L.c1
  go_wp2_with fail
  refine (N.out _).mono ?_
  rintro e vN ⟨rfl, hb⟩
  replace L := L.grow hb
  have Lc0 := L.c0
  have Lc1 := L.c1
  replace L := L.grow (grown1 _ (.cells #[.int .i64 K, .int .i64 A, .int .i64 B] 30))
  have Lc0 := L.c0
  have Lc1 := L.c1
  have S := SBox.new vN K A B
  go_wp2_with fail
  refine (RN.out _).mono ?_
  rintro e vRN ⟨rfl, hb⟩
  replace L := L.grow hb
  replace S := S.grow hb
  have Lc0 := L.c0
  have Lc1 := L.c1
  have Sc0 := S.c0
  have Sc1 := S.c1
  have Sc2 := S.c2
  replace L := L.grow (grown1 _ (.cells #[.int .i64 K, .int .i64 A, .int .i64 B] 30))
  have Lc0 := L.c0
  have Lc1 := L.c1
  have U := SBox.new vRN K A B
  replace S := S.grow (grown1 _ (.cells #[.int .i64 K, .int .i64 A, .int .i64 B] 30))
  have Sc0 := S.c0
  have Sc1 := S.c1
  have Sc2 := S.c2
  go_wp2_with fail
  refine (Z.out _).mono ?_
  rintro e vZ ⟨rfl, hb⟩
  replace L := L.grow hb
  have Lc0 := L.c0
  have Lc1 := L.c1
  go_wp2
  go_ret
  exact ⟨rfl, L.below⟩

theorem walk (P T : Int) (_hP : -9223372036854775808 ≤ P ∧ P ≤ 9223372036854775807) (_hT : -9223372036854775808 ≤ T ∧ T ≤ 9223372036854775807) (k : Int) (_hk : -9223372036854775808 ≤ k ∧ k ≤ 9223372036854775807) (a : Int) (_ha : -9223372036854775808 ≤ a ∧ a ≤ 9223372036854775807) (b : Int) (_hb : -9223372036854775808 ≤ b ∧ b ≤ 9223372036854775807) (f : Bool) (w : World) :
    Calls Try.prog 3 #[.agg #[.int .i64 P, .int .i64 T], .int .i64 k, .int .i64 a, .int .i64 b, .bool f] w fun e w' => e = .returned (.bool true) ∧ Below w.heap.size w w' :=
  core P T k a b f _ _ _ _ _ _ _ _ _ _ _ _ _ _ w (hide (fun w => lmay P T w)) (hide (fun w => rlmay P T w)) (hide (fun w => lwords P T w)) (hide (fun w => rlwords P T w)) (hide (fun w => lhead P T a f b w)) (hide (fun w => rlhead P T a f b w)) (hide (fun w => lcache P T a b w)) (hide (fun w => rlcache P T a b w)) (hide (fun w => lpage P T k a w)) (hide (fun w => rlpage P T k a w)) (hide (fun w => lmap P T k a w)) (hide (fun w => rlmap P T k a w)) (hide (fun w => lname P T a w)) (hide (fun w => rlname P T a w))

set_option maxRecDepth 100000 in
theorem lifted (os : Os) (started : os.Started) (H : Type) (enc : TypeId × Value → H) :
    ReturnsInHanded {} Try.checked os 3 .any (Rows.layoutAllSpec.pre6 enc Try.prog Try.f3 Rows.layoutAllRow.domain false) (Rows.layoutAllSpec.post enc Try.prog Try.f3 false true false false) := by
  refine returnsInHanded_of_change (C := Try.checked) own started (by kernel_rfl) Try.func3
    (ChangeSpec.witness6 (enc := enc) (C := Try.checked) false ⟨#[], #[.agg #[.int .i64 0, .int .i64 0], .int .i64 0, .int .i64 0, .int .i64 0, .bool false], []⟩ 8 (by kernel_rfl) (by kernel_rfl) (by kernel_rfl) (by kernel_rfl)) ?_
  intro W base args ds gs before hval0 hW _ _
  have hval : ∀ (j : Nat) t v, Try.f3.params[j]? = some t → args[j]? = some v → Value.okWide Try.prog W .any base t v := hval0
  have hW' := hW
  obtain ⟨p, q, hA0, hV, rfl, hfz, hnd⟩ := hW
  have hA : DataW.TrodAll enc Try.prog W 0 (fun _ => true) true Try.f3.params.toList args.toList ds p := hA0
  rw [Try.params3] at hA hval
  obtain ⟨v0, vs0, d0, ds0, p0, q0, hargs, rfl, rfl, h0, r0⟩ := trodAll_cons hA
  obtain ⟨v1, vs1, d1, ds1, p1, q1, rfl, rfl, rfl, h1, r1⟩ := trodAll_cons r0
  obtain ⟨v2, vs2, d2, ds2, p2, q2, rfl, rfl, rfl, h2, r2⟩ := trodAll_cons r1
  obtain ⟨v3, vs3, d3, ds3, p3, q3, rfl, rfl, rfl, h3, r3⟩ := trodAll_cons r2
  obtain ⟨v4, vs4, d4, ds4, p4, q4, rfl, rfl, rfl, h4, r4⟩ := trodAll_cons r3
  obtain ⟨rfl, rfl, rfl⟩ := trodAll_nil r4
  obtain rfl : args = #[v0, v1, v2, v3, v4] := by cases args; simp_all
  obtain ⟨rfl, rfl⟩ := trodVars_none hV
  have h0k := h0
  have lt0 : ∀ x ∈ p0, x.block < W.heap.size := fun x hx => hW'.lt x (by simp [hx])
  obtain ⟨l0_0, l0_1, rfl, f0_0, f0_1⟩ := open_layout (hval 0 23 v0 rfl rfl) h0
  obtain ⟨a1, rfl, rfl, rfl, w1⟩ := open_int Try.underlying3 (hval 1 3 v1 rfl rfl) h1
  obtain ⟨a2, rfl, rfl, rfl, w2⟩ := open_int Try.underlying3 (hval 2 3 v2 rfl rfl) h2
  obtain ⟨a3, rfl, rfl, rfl, w3⟩ := open_int Try.underlying3 (hval 3 3 v3 rfl rfl) h3
  obtain ⟨a4, rfl, rfl, rfl⟩ := open_bool Try.underlying4 (hval 4 4 v4 rfl rfl) h4
  clear hA0 hval0
  have hx1 := i64_bd w1
  have hx2 := i64_bd w2
  have hx3 := i64_bd w3
  refine (walk l0_0 l0_1 f0_0 f0_1 a1 hx1 a2 hx2 a3 hx3 a4 W).mono fun e W' ⟨he, bel⟩ => ?_
  subst he
  exact ⟨_, rfl, _, _, _, [], _, [], hW', trodAll_mk1 (shut_bool Try.underlying4 _), (trodAll_cons_mk (Below.trod laidOut (by kernel_rfl) (of_decide_eq_true (by kernel_rfl)) h0k bel lt0) (trodAll_cons_mk (shut_int Try.underlying3 w1) (trodAll_cons_mk (shut_int Try.underlying3 w2) (trodAll_cons_mk (shut_int Try.underlying3 w3) (trodAll_cons_mk (shut_bool Try.underlying4 _) trodAll_mk0))))), rfl, bel.frame _, fun h => by cases h⟩

end Go.Proofs.Ytcjfnlijkkefaaa.layoutAll
namespace Go.Proofs.Ytcjfnlijkkefaaa

theorem layoutAll_holds : Rows.LayoutAllSaid :=
  OpenClaim.holds_of_wide 3 Try.f3 rfl rfl rfl rfl rfl rfl rfl ⟨rfl, rfl, rfl, rfl, rfl⟩ rfl rfl rfl rfl rfl (by kernel_rfl) Try.func3 (by kernel_rfl)
    (of_decide_eq_true (by kernel_rfl)) (by unfold Func.isWrapper; first | (rw [if_pos (by decide +kernel)]; kernel_rfl) | (rw [if_neg (by decide +kernel)]; exact ⟨rfl, rfl⟩))
    (fun os started H enc _ => layoutAll.lifted os started H enc)
end Go.Proofs.Ytcjfnlijkkefaaa
