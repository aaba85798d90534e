/- Of no tree each call says so; what is told is new memory: the law TreapNone answers true at every input, and its arguments read behind the call as they read before. -/
import Derived.Test.YtblodflboalbmaaTreOpen
import Derived.Test.YtblodflboalbmaaTreNil
namespace Go.Proofs.Ytblodflboalbmaa.treapNone
open Go.ChangeShapes Go.WideShapes Go.ChangeAt Go.RowKit

theorem one_row {W : World} {base e size : Nat} {v : Value} {xs : List Value} (h : W.ownsRow base e size v 1 xs) : ∃ g cap cur, v = .slice (some ⟨g, 0, none⟩) 1 cap ∧ base ≤ g ∧ W.heap[g]? = some (.cells cur e (0, 0)) ∧ cur[0]? = (if 0 < size then xs[0]? else cur[0]?) := by
  rcases h.2 with ⟨_, h0⟩ | ⟨g, cap, cur, h1, h2, h3, _, _, _, h4⟩
  · omega
  · refine ⟨g, cap, cur, h1, h2, h3, ?_⟩
    split
    · rw [← h4, List.getElem?_take, if_pos (by omega)]; simp
    · rfl

theorem ints_one (w : World) (x : Int) (t : TypeId) : IntsV (w.alloc (.cells #[.int .i64 x] t)) (.slice (some ⟨w.heap.size, 0, none⟩) 1 1) [x] :=
  ⟨_, _, rfl, fun _ => ⟨w.heap.size, rfl, by simp, fun i hi => by
    have : i = 0 := by simpa using hi
    subst this
    exact cell_of_heap (heap_alloc_at w _)⟩⟩

set_option maxHeartbeats 2000000 in
theorem walk (key : Int) (_hk : -9223372036854775808 ≤ key ∧ key ≤ 9223372036854775807) (d : Nat) (_hd : d < 4294967296) (s : ByteArray) (_hs : s.size ≤ maxLen) (w : World) :
    Calls Try.prog 9 #[.int .i64 key, .int .u32 (d : Int), .string s] w fun e w' => e = .returned (.bool true) ∧ Below w.heap.size w w' := by
  clear _hs
  go_enter Try.func9, Try.ntmps9
  go_wp2_with fail
  refine (dropNil key _).mono ?_
  rintro e w1 ⟨rfl, hb1⟩
  go_wp2_with fail
  refine (getNil key _).mono ?_
  rintro e w2 ⟨rfl, hb2⟩
  replace hb2 := hb1.trans (hb2.mono hb1.size)
  clear hb1
  go_wp2_with fail
  refine (ceilNil key _).mono ?_
  rintro e w3 ⟨rfl, hb3⟩
  replace hb3 := hb2.trans (hb3.mono hb2.size)
  clear hb2
  go_wp2_with fail
  refine (putNil key d s _).mono ?_
  rintro e w4 ⟨rfl, rfl⟩
  go_wp2_with fail
  refine (lenNil _).mono ?_
  rintro e w5 ⟨rfl, rfl⟩
  go_wp2_with fail
  refine (keysNil _).mono ?_
  rintro e w6 ⟨rfl, rfl⟩
  go_wp2_with fail
  refine (shapeNil _).mono ?_
  rintro e w7 ⟨rfl, rfl⟩
  go_wp2_with fail
  refine (newOS _).mono ?_
  rintro e w8 ⟨rfl, h8⟩
  have H8 := hide h8
  have HB := hide hb3
  clear h8 hb3
  go_wp2_with fail
  refine (putYesOS H8.out key d s rfl (by decide)).mono ?_
  rintro e w9 ⟨rfl, h9⟩
  have h9' : OneS (fun x => w7.heap.size ≤ x) w7 w9 w7.heap.size [(key, d, s)] := h9
  have H9 := hide h9'
  clear h9 h9'
  go_wp2_with fail
  obtain ⟨T, hT, _⟩ := H9.out.tree
  refine (keysS _ _ T _ hT (by simp)).mono ?_
  rintro e w10 ⟨v, rfl, hv, hb10⟩
  obtain ⟨g, cap, cur, rfl, hg1, hg2, hg3⟩ := one_row hv
  have H10 := hide (H9.out.below hb10)
  have hg4 : g < w10.heap.size := lt_of_heap hg2
  clear hv hT
  go_wp2_with fail
  obtain ⟨T', hT, _⟩ := H10.out.tree
  refine (shapeS _ _ T' _ hT (by simp)).mono ?_
  rintro e w11 ⟨v, rfl, hv, hb11⟩
  obtain ⟨g', cap', cur', rfl, hg5, hg6, hg7⟩ := one_row hv
  have hne : g ≠ g' := by omega
  have hg8 := (hb11.block g hg4).trans hg2
  have c1 : w11.cell? ⟨g, 0, none⟩ = some (.int .i64 key) := (cell_of_heap hg8).trans (hg3.trans rfl)
  have f1 := frozen_of_heap (o := 0) hg8
  have c2 : w11.cell? ⟨g', 0, none⟩ = some (.int .i64 key) := (cell_of_heap hg6).trans (hg7.trans (by rw [if_pos (by omega), shp_one]; rfl))
  have f2 := frozen_of_heap (o := 0) hg6
  have hbb : Below w9.heap.size w9 w11 := hb10.trans (hb11.mono hb10.size)
  have HBB := hide hbb
  have hge : w9.heap.size ≤ g' := Nat.le_trans hb10.size hg5
  clear hv hT hg2 hg6 hg3 hg7 hg8 hb10 hb11 hbb
  go_wp2_with fail
  have H12 := hide (H9.out.below (w' := ((w11.setCell ⟨g, 0, none⟩ (.int .i64 (wrap64 (key + 1)))).setCell ⟨g', 0, none⟩ (.int .i64 (wrap64 (key + 1))))) ((HBB.out.setCell (p := ⟨g, 0, none⟩) hg1 _).setCell (p := ⟨g', 0, none⟩) hge _))
  clear c1 c2 f1 f2
  generalize ((w11.setCell ⟨g, 0, none⟩ (.int .i64 (wrap64 (key + 1)))).setCell ⟨g', 0, none⟩ (.int .i64 (wrap64 (key + 1)))) = w12 at *
  refine (getYesOS H12.out key key d s (by simp [getL])).mono ?_
  rintro e w13 ⟨rfl, rfl⟩
  go_wp2_with fail
  refine (keysOS H12.out (by simp)).mono ?_
  rintro e w14 ⟨v, rfl, hv, _, hb14, h14⟩
  have H14 := hide h14
  have HV := hide hv
  obtain ⟨a, c, rfl, _⟩ := hv
  have hb15 : Below w14.heap.size w14 (w14.alloc (.cells #[.int .i64 key] 3)) := (Below.refl _ w14).alloc (Nat.le_refl _) _
  have HSI := hide (sameInts _ _ _ [key] (HV.out.below hb15) (ints_one w14 key 3) (by simp))
  have H15 := hide (h14.below hb15)
  clear h14 hb14 hb15
  go_wp2_with fail
  refine HSI.out.mono ?_
  rintro e w16 ⟨rfl, h16⟩
  have H16 := hide (H15.out.alike h16)
  clear h16
  go_wp2_with fail
  refine (awakeT _).mono ?_
  rintro e w17 ⟨rfl, hb17⟩
  have HB17 := hide hb17
  clear hb17
  go_wp2
  go_ret
  have h1 := (H16.out.below HB17.out).back
  exact ⟨rfl, HB.out.trans (h1.mono HB.out.size)⟩

set_option maxRecDepth 100000 in
theorem lifted (os : Os) (started : os.Started) (H : Type) (enc : TypeId × Value → H) :
    ReturnsInHanded {} Try.checked os 9 .any (Rows.treapNoneSpec.pre6 enc Try.prog Try.f9 Rows.treapNoneRow.domain false) (Rows.treapNoneSpec.post enc Try.prog Try.f9 false true false false) := by
  refine returnsInHanded_of_change (C := Try.checked) own started (by kernel_rfl) Try.func9
    (ChangeSpec.witness6 (enc := enc) (C := Try.checked) false ⟨#[], #[.int .i64 0, .int .u32 0, .string ⟨#[]⟩], []⟩ 8 (by kernel_rfl) (by kernel_rfl) (by kernel_rfl) (by kernel_rfl)) ?_
  intro W base args ds gs before hval0 hW _ _
  have hval : ∀ (j : Nat) t v, Try.f9.params[j]? = some t → args[j]? = some v → Value.okWide Try.prog W .any base t v := hval0
  have hW' := hW
  obtain ⟨p, q, hA0, hV, rfl, hfz, hnd⟩ := hW
  have hA : DataW.TrodAll enc Try.prog W 0 (fun _ => true) true Try.f9.params.toList args.toList ds p := hA0
  rw [Try.params9] at hA hval
  obtain ⟨v0, vs0, d0, ds0, p0, q0, hargs, rfl, rfl, h0, r0⟩ := trodAll_cons hA
  obtain ⟨v1, vs1, d1, ds1, p1, q1, rfl, rfl, rfl, h1, r1⟩ := trodAll_cons r0
  obtain ⟨v2, vs2, d2, ds2, p2, q2, rfl, rfl, rfl, h2, r2⟩ := trodAll_cons r1
  obtain ⟨rfl, rfl, rfl⟩ := trodAll_nil r2
  obtain rfl : args = #[v0, v1, v2] := by cases args; simp_all
  obtain ⟨rfl, rfl⟩ := trodVars_none hV
  obtain ⟨a0, rfl, rfl, rfl, w0⟩ := open_int Try.underlying3 (hval 0 3 v0 rfl rfl) h0
  obtain ⟨a1, rfl, rfl, rfl, w1⟩ := open_int Try.underlying29 (hval 1 29 v1 rfl rfl) h1
  have h2k := h2
  have lt2 : ∀ x ∈ p2, x.block < W.heap.size := fun x hx => hW'.lt x (by simp [hx])
  obtain ⟨l2_0, rfl, f2_0⟩ := open_text (hval 2 9 v2 rfl rfl) h2
  clear hA0 hval0
  have hx0 := i64_bd w0
  obtain ⟨x1, hx1, rfl⟩ := u32_nat w1
  refine (walk a0 hx0 x1 hx1 l2_0 f2_0 W).mono fun e W' ⟨he, bel⟩ => ?_
  subst he
  exact ⟨_, rfl, _, _, _, [], _, [], hW', trodAll_mk1 (shut_bool Try.underlying4 _), (trodAll_cons_mk (shut_int Try.underlying3 w0) (trodAll_cons_mk (shut_int Try.underlying29 w1) (trodAll_cons_mk (Below.trod laidOut (by kernel_rfl) (of_decide_eq_true (by kernel_rfl)) h2k bel lt2) trodAll_mk0))), rfl, bel.frame _, fun h => by cases h⟩

end Go.Proofs.Ytblodflboalbmaa.treapNone
namespace Go.Proofs.Ytblodflboalbmaa

theorem treapNone_holds : Rows.TreapNoneSaid :=
  OpenClaim.holds_of_wide 9 Try.f9 rfl rfl rfl rfl rfl rfl rfl ⟨rfl, rfl, rfl, rfl, rfl⟩ rfl rfl rfl rfl rfl (by kernel_rfl) Try.func9 (by kernel_rfl)
    (of_decide_eq_true (by kernel_rfl)) (by unfold Func.isWrapper; first | (rw [if_pos (by decide +kernel)]; kernel_rfl) | (rw [if_neg (by decide +kernel)]; exact ⟨rfl, rfl⟩))
    (fun os started H enc _ => treapNone.lifted os started H enc)
end Go.Proofs.Ytblodflboalbmaa
