/- What is put is got; put twice it stays as it was; dropped it is not there, and the others are: the law TreapBack answers true at every input, and its arguments read behind the call as they read before. -/
import Derived.Test.YtblodflboalbmaaTreOpen
import Derived.Test.YtblodflboalbmaaTreList
namespace Go.Proofs.Ytblodflboalbmaa.treapBack
open Go.ChangeShapes Go.WideShapes Go.ChangeAt Go.RowKit

set_option maxHeartbeats 4000000 in
set_option maxRecDepth 100000 in
theorem walk (ao : Option Addr) (len cap : Nat) (hlc : len ≤ cap) (hcm : cap ≤ maxLen) (key : Int) (_hk : -9223372036854775808 ≤ key ∧ key ≤ 9223372036854775807) (d : Nat) (_hd : d < 4294967296) (e : Nat) (_he : e < 4294967296) (w : World)
    (hf : ∃ f : Nat → Int, ∀ k, k < len → (-9223372036854775808 ≤ f k ∧ f k ≤ 9223372036854775807) ∧ At w ao k (.int .i64 (f k))) :
    Calls Try.prog 7 #[.slice ao len cap, .int .i64 key, .int .u32 (d : Int), .int .u32 (e : Int)] w fun e w' => e = .returned (.bool true) ∧ Below w.heap.size w w' := by
  obtain ⟨f, hf⟩ := hf
  have HF := hide hf
  have hlen : len ≤ 9223372036854775807 := by unfold maxLen at hcm; omega
  clear hf hcm hlc
  go_enter Try.func7, Try.ntmps7
  go_wp2_with fail
  refine (newOI w).mono ?_
  rintro x w1 ⟨rfl, h1⟩
  have H1 := hide h1
  clear h1
  go_wp2
  go_loopw [10] (fun i wr => ∃ k : Nat, k ≤ 60 ∧ i = .int .i64 (k : Int) ∧ Hid (∃ L, L.length ≤ k ∧ OneI (fun x => w.heap.size ≤ x) w wr w.heap.size L)) (fun i _ => 60 - (intOf i).toNat)
  case atStart => exact ⟨0, Nat.zero_le _, rfl, ⟨[], Nat.le_refl _, H1.out⟩⟩
  case round =>
    obtain ⟨k, hk, rfl, hh⟩ := hrel
    clear H1
    by_cases hlt : k < len ∧ k < 60
    · obtain ⟨hl1, hl2⟩ := hlt
      obtain ⟨L, hL, h2⟩ := hh.out
      obtain ⟨b, o, rfl, hc⟩ := ((HF.out k hl1).2).below h2.back
      have HP := hide (putOI h2 (f k) k (k : Int) (by omega))
      have HL := hide hL
      generalize f k = y at hc HP
      clear hh h2 hL
      go_wp2_with fail
      refine HP.out.mono ?_
      rintro x w3 ⟨rfl, h3⟩
      have H3 := hide h3
      clear h3
      go_wp2
      go_roundw
      case rel => exact ⟨k + 1, by omega, by go_num, ⟨_, Nat.le_trans putL_le (by have := HL.out; omega), H3.out⟩⟩
      case measure => simp [intOf]; omega
    · have hx : ¬ k < len ∨ (k < len ∧ ¬ k < 60) := by omega
      clear hlt
      obtain ⟨L, hL, h2⟩ := hh.out
      have hL' : L.length ≤ 60 := by omega
      clear hh HF hL
      have main : ∃ L1 : List (It Int), L1.length ≤ 60 ∧ getL key L1 = none ∧ Calls Try.prog 21 #[.pointer (some ⟨w.heap.size, 0, none⟩), .int .i64 key] wr fun x w' => (∃ u, x = .returned u) ∧ OneI (fun x => w.heap.size ≤ x) w w' w.heap.size L1 := by
        cases hg : getL key L with
        | none => exact ⟨L, hL', hg, (dropNoOI h2 key hg).mono fun _ _ ⟨q1, q2⟩ => ⟨⟨_, q1⟩, q2⟩⟩
        | some i => exact ⟨delL key L, Nat.le_trans delL_le hL', getL_del, (dropYesOI h2 key i.1 i.2.1 i.2.2 hg (by omega)).mono fun _ _ ⟨q1, q2⟩ => ⟨⟨_, q1⟩, q2⟩⟩
      obtain ⟨L1, hL1, hg1, hD⟩ := main
      have HD := hide hD
      have HG1 := hide hg1
      have HL1 := hide hL1
      clear hD hg1 h2 hL' hL1
      rcases hx with hx | ⟨hx, hy⟩ <;> (
        go_wp2_with fail
        refine HD.out.mono ?_
        rintro x w3 ⟨⟨u, rfl⟩, h3⟩
        have H3 := hide h3
        clear h3
        go_wp2_with fail
        refine (shapeOI H3.out (by have := HL1.out; omega)).mono ?_
        rintro x w4 ⟨v, rfl, h4, hv, hb4, _⟩
        have HV := hide (show NodesV w4 v (shp L1) ∧ ∀ a m c, v = .slice (some a) m c → w3.heap.size ≤ a.block from ⟨h4, hv⟩)
        have H4 : Hid (OneI (fun x => w.heap.size ≤ x ∧ (x < w3.heap.size ∨ w4.heap.size ≤ x)) w4 w4 w.heap.size L1) := hide (H3.out.from hb4 (fun x h1 h2 => ⟨h1, .inl h2⟩) (fun x hx => ⟨Nat.le_trans (Nat.le_trans H3.out.back.size hb4.size) hx, .inr hx⟩))
        have HB4 := hide (H3.out.back.trans (hb4.mono H3.out.back.size))
        obtain ⟨va, vc, rfl, _⟩ := h4
        clear hv hb4
        go_wp2_with fail
        refine (putYesOI H4.out key d 77 HG1.out (by have := HL1.out; omega)).mono ?_
        rintro x w5 ⟨rfl, h5⟩
        have H5 := hide h5
        clear h5
        go_wp2_with fail
        refine (putNoOI H5.out key e 78 (key, d, 77) (getL_ins H4.out.ris HG1.out)).mono ?_
        rintro x w6 ⟨rfl, h6⟩
        have H6 := hide h6
        clear h6
        go_wp2_with fail
        refine (getYesOI H6.out key key d 77 (getL_ins H4.out.ris HG1.out)).mono ?_
        rintro x w7 ⟨rfl, rfl⟩
        go_wp2_with fail
        refine (dropYesOI H6.out key key d 77 (getL_ins H4.out.ris HG1.out) (by rw [insL_length]; have := HL1.out; omega)).mono ?_
        rintro x w8 ⟨rfl, h8⟩
        rw [del_ins H4.out.ris HG1.out] at h8
        have H8 := hide h8
        clear h8
        go_wp2_with fail
        refine (dropNoOI H8.out key HG1.out).mono ?_
        rintro x w9 ⟨rfl, h9⟩
        have H9 := hide h9
        clear h9
        go_wp2_with fail
        refine (getNoOI H9.out key HG1.out).mono ?_
        rintro x w10 ⟨rfl, h10, _⟩
        have H10 := hide h10
        clear h10
        go_wp2_with fail
        refine (shapeOI H10.out (by have := HL1.out; omega)).mono ?_
        rintro x w11 ⟨v2, rfl, h11, _, _, h12⟩
        have HS := hide (sameNodes w11 _ _ (shp L1) h11 (HV.out.1.keptB h12.only HV.out.2 (fun k hk => hk.2)) (by rw [shp_length H4.out.ris]; have := HL1.out; omega))
        have H12 := hide h12
        obtain ⟨va2, vc2, rfl, _⟩ := h11
        clear h12
        go_wp2_with fail
        refine HS.out.mono ?_
        rintro x w13 ⟨rfl, h13⟩
        have H13 := hide (H12.out.alike h13)
        clear h13
        go_wp2_with fail
        refine (awakeT _).mono ?_
        rintro x w14 ⟨rfl, h14⟩
        have H14 := hide (H13.out.below h14)
        clear h14
        go_wp2
        go_ret
        exact ⟨rfl, HB4.out.trans (H14.out.only.below HB4.out.size (fun k hk => hk.1))⟩)

set_option maxRecDepth 100000 in
theorem lifted (os : Os) (started : os.Started) (H : Type) (enc : TypeId × Value → H) :
    ReturnsInHanded {} Try.checked os 7 .any (Rows.treapBackSpec.pre6 enc Try.prog Try.f7 Rows.treapBackRow.domain false) (Rows.treapBackSpec.post enc Try.prog Try.f7 false true false false) := by
  refine returnsInHanded_of_change (C := Try.checked) own started (by kernel_rfl) Try.func7
    (ChangeSpec.witness6 (enc := enc) (C := Try.checked) false ⟨#[], #[.slice none 0 0, .int .i64 0, .int .u32 0, .int .u32 0], []⟩ 8 (by kernel_rfl) (by kernel_rfl) (by kernel_rfl) (by kernel_rfl)) ?_
  intro W base args ds gs before hval0 hW _ _
  have hval : ∀ (j : Nat) t v, Try.f7.params[j]? = some t → args[j]? = some v → Value.okWide Try.prog W .any base t v := hval0
  have hW' := hW
  obtain ⟨p, q, hA0, hV, rfl, hfz, hnd⟩ := hW
  have hA : DataW.TrodAll enc Try.prog W 0 (fun _ => true) true Try.f7.params.toList args.toList ds p := hA0
  rw [Try.params7] at hA hval
  obtain ⟨v0, vs0, d0, ds0, p0, q0, hargs, rfl, rfl, h0, r0⟩ := trodAll_cons hA
  obtain ⟨v1, vs1, d1, ds1, p1, q1, rfl, rfl, rfl, h1, r1⟩ := trodAll_cons r0
  obtain ⟨v2, vs2, d2, ds2, p2, q2, rfl, rfl, rfl, h2, r2⟩ := trodAll_cons r1
  obtain ⟨v3, vs3, d3, ds3, p3, q3, rfl, rfl, rfl, h3, r3⟩ := trodAll_cons r2
  obtain ⟨rfl, rfl, rfl⟩ := trodAll_nil r3
  obtain rfl : args = #[v0, v1, v2, v3] := by cases args; simp_all
  obtain ⟨rfl, rfl⟩ := trodVars_none hV
  have h0k := h0
  have lt0 : ∀ x ∈ p0, x.block < W.heap.size := fun x hx => hW'.lt x (by simp [hx])
  obtain ⟨l0_0, l0_1, l0_2, rfl, f0_0, f0_1, f0_2⟩ := open_ints (hval 0 38 v0 rfl rfl) h0
  obtain ⟨a1, rfl, rfl, rfl, w1⟩ := open_int Try.underlying3 (hval 1 3 v1 rfl rfl) h1
  obtain ⟨a2, rfl, rfl, rfl, w2⟩ := open_int Try.underlying29 (hval 2 29 v2 rfl rfl) h2
  obtain ⟨a3, rfl, rfl, rfl, w3⟩ := open_int Try.underlying29 (hval 3 29 v3 rfl rfl) h3
  clear hA0 hval0
  have hx1 := i64_bd w1
  obtain ⟨x2, hx2, rfl⟩ := u32_nat w2
  obtain ⟨x3, hx3, rfl⟩ := u32_nat w3
  refine (walk l0_0 l0_1 l0_2 f0_0 f0_1 a1 hx1 x2 hx2 x3 hx3 W f0_2).mono fun e W' ⟨he, bel⟩ => ?_
  subst he
  exact ⟨_, rfl, _, _, _, [], _, [], hW', trodAll_mk1 (shut_bool Try.underlying4 _), (trodAll_cons_mk (Below.trod laidOut (by kernel_rfl) (of_decide_eq_true (by kernel_rfl)) h0k bel lt0) (trodAll_cons_mk (shut_int Try.underlying3 w1) (trodAll_cons_mk (shut_int Try.underlying29 w2) (trodAll_cons_mk (shut_int Try.underlying29 w3) trodAll_mk0)))), rfl, bel.frame _, fun h => by cases h⟩

end Go.Proofs.Ytblodflboalbmaa.treapBack
namespace Go.Proofs.Ytblodflboalbmaa

theorem treapBack_holds : Rows.TreapBackSaid :=
  OpenClaim.holds_of_wide 7 Try.f7 rfl rfl rfl rfl rfl rfl rfl ⟨rfl, rfl, rfl, rfl, rfl⟩ rfl rfl rfl rfl rfl (by kernel_rfl) Try.func7 (by kernel_rfl)
    (of_decide_eq_true (by kernel_rfl)) (by unfold Func.isWrapper; first | (rw [if_pos (by decide +kernel)]; kernel_rfl) | (rw [if_neg (by decide +kernel)]; exact ⟨rfl, rfl⟩))
    (fun os started H enc _ => treapBack.lifted os started H enc)
end Go.Proofs.Ytblodflboalbmaa
