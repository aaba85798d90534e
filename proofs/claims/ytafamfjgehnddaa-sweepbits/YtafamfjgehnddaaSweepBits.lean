/- What was allocated and marked stays, what was not marked is freed, and no mark is left, swept again nothing is left: the law SweepBits answers true at every input, and its arguments read behind the call as they read before. -/
import Derived.Test.YtafamfjgehnddaaPA
namespace Go.Proofs.Ytafamfjgehnddaa.sweepBits
open Go.ChangeShapes Go.WideShapes Go.ChangeAt Go.RowKit

theorem walk (al : Nat) (ha : al < 18446744073709551616) (mk : Nat) (hk : mk < 18446744073709551616) (p : Nat) (hp : p < 256) (w : World) :
    Calls Try.prog 4 #[.int .u64 (al : Int), .int .u64 (mk : Int), .int .u8 (p : Int)] w fun e w' => e = .returned (.bool true) ∧ Below w.heap.size w w' := by
  obtain ⟨X, hX⟩ : ∃ X, al &&& mk = X := ⟨_, rfl⟩
  obtain ⟨F, hF⟩ : ∃ F, al &&& Plain.inv mk = F := ⟨_, rfl⟩
  have hXb : X < 18446744073709551616 := by rw [← hX]; exact Nat.lt_of_le_of_lt Nat.and_le_left ha
  have hFb : F < 18446744073709551616 := by rw [← hF]; exact Nat.lt_of_le_of_lt Nat.and_le_left ha
  have k1 : bits BinOp.and IntKind.u64 (al : Int) (mk : Int) = (X : Int) := by rw [bits_and_u64_nat al mk ha hk, hX]
  have k2 : bits BinOp.andNot IntKind.u64 (al : Int) (mk : Int) = (F : Int) := by rw [bits_andNot_u64 al mk ha hk, hF]
  obtain ⟨z1, z2⟩ := and_inv al mk ha hk
  rw [hX, hF] at z1 z2
  have k3 : bits BinOp.or IntKind.u64 (X : Int) (F : Int) = (al : Int) := by rw [bits_or_u64_nat X F hXb hFb, z1]
  have k4 : bits BinOp.and IntKind.u64 (X : Int) (F : Int) = 0 := by rw [bits_and_u64_nat X F hXb hFb, z2]; rfl
  have ep : ((p % 6 : Nat) : Int) = (p : Int) % 6 := by omega
  have H1' := fun u => swept15 al mk ha hk (p % 6) (by omega) X F hX hF u
  have H2' := fun u => swept15 X 0 hXb (by omega) (p % 6) (by omega) 0 X (by simp) (and_inv_zero X hXb) u
  rw [ep] at H1' H2'
  rw [show ((0 : Nat) : Int) = 0 from rfl] at H2'
  have H1 := hide H1'
  have H2 := hide H2'
  have HAW := hide (fun u => awakeSw u)
  clear hX hF z1 z2 ep H1' H2'
  go_enter Try.func4, Try.ntmps4
  go_wp2_with fail
  refine (H1.out _).mono ?_
  rintro e w1 ⟨rfl, b1⟩
  have HB1 := hide b1
  clear b1
  go_wp2_with fail
  refine (H2.out _).mono ?_
  rintro e w2 ⟨rfl, b2⟩
  have HB2 := hide (HB1.out.trans (b2.mono HB1.out.size))
  clear b2
  go_wp2_with fail
  refine (HAW.out _).mono ?_
  rintro e w3 ⟨rfl, b3⟩
  have HB3 := hide (HB2.out.trans (b3.mono HB2.out.size))
  clear b3
  go_wp2
  go_ret
  exact ⟨rfl, HB3.out⟩

set_option maxRecDepth 100000 in
theorem lifted (os : Os) (started : os.Started) (H : Type) (enc : TypeId × Value → H) :
    ReturnsInHanded {} Try.checked os 4 .any (Rows.sweepBitsSpec.pre6 enc Try.prog Try.f4 Rows.sweepBitsRow.domain false) (Rows.sweepBitsSpec.post enc Try.prog Try.f4 false true false false) := by
  refine returnsInHanded_of_change (C := Try.checked) own started (by kernel_rfl) Try.func4
    (ChangeSpec.witness6 (enc := enc) (C := Try.checked) false ⟨#[], #[.int .u64 0, .int .u64 0, .int .u8 0], []⟩ 8 (by kernel_rfl) (by kernel_rfl) (by kernel_rfl) (by kernel_rfl)) ?_
  intro W base args ds gs before hval0 hW _ _
  have hval : ∀ (j : Nat) t v, Try.f4.params[j]? = some t → args[j]? = some v → Value.okWide Try.prog W .any base t v := hval0
  have hW' := hW
  obtain ⟨p, q, hA0, hV, rfl, hfz, hnd⟩ := hW
  have hA : DataW.TrodAll enc Try.prog W 0 (fun _ => true) true Try.f4.params.toList args.toList ds p := hA0
  rw [Try.params4] at hA hval
  obtain ⟨v0, vs0, d0, ds0, p0, q0, hargs, rfl, rfl, h0, r0⟩ := trodAll_cons hA
  obtain ⟨v1, vs1, d1, ds1, p1, q1, rfl, rfl, rfl, h1, r1⟩ := trodAll_cons r0
  obtain ⟨v2, vs2, d2, ds2, p2, q2, rfl, rfl, rfl, h2, r2⟩ := trodAll_cons r1
  obtain ⟨rfl, rfl, rfl⟩ := trodAll_nil r2
  obtain rfl : args = #[v0, v1, v2] := by cases args; simp_all
  obtain ⟨rfl, rfl⟩ := trodVars_none hV
  obtain ⟨a0, rfl, rfl, rfl, w0⟩ := open_int Try.underlying48 (hval 0 48 v0 rfl rfl) h0
  obtain ⟨a1, rfl, rfl, rfl, w1⟩ := open_int Try.underlying48 (hval 1 48 v1 rfl rfl) h1
  obtain ⟨a2, rfl, rfl, rfl, w2⟩ := open_int Try.underlying5 (hval 2 5 v2 rfl rfl) h2
  clear hA0 hval0
  obtain ⟨x0, hx0, rfl⟩ := u64_nat w0
  obtain ⟨x1, hx1, rfl⟩ := u64_nat w1
  obtain ⟨x2, hx2, rfl⟩ := u8_nat w2
  refine (walk x0 hx0 x1 hx1 x2 hx2 W).mono fun e W' ⟨he, bel⟩ => ?_
  subst he
  exact ⟨_, rfl, _, _, _, [], _, [], hW', trodAll_mk1 (shut_bool Try.underlying4 _), (trodAll_cons_mk (shut_int Try.underlying48 w0) (trodAll_cons_mk (shut_int Try.underlying48 w1) (trodAll_cons_mk (shut_int Try.underlying5 w2) trodAll_mk0))), rfl, bel.frame _, fun h => by cases h⟩

end Go.Proofs.Ytafamfjgehnddaa.sweepBits
namespace Go.Proofs.Ytafamfjgehnddaa

theorem sweepBits_holds : Rows.SweepBitsSaid :=
  OpenClaim.holds_of_wide 4 Try.f4 rfl rfl rfl rfl rfl rfl rfl ⟨rfl, rfl, rfl, rfl, rfl⟩ rfl rfl rfl rfl rfl (by kernel_rfl) Try.func4 (by kernel_rfl)
    (of_decide_eq_true (by kernel_rfl)) (by unfold Func.isWrapper; first | (rw [if_pos (by decide +kernel)]; kernel_rfl) | (rw [if_neg (by decide +kernel)]; exact ⟨rfl, rfl⟩))
    (fun os started H enc _ => sweepBits.lifted os started H enc)
end Go.Proofs.Ytafamfjgehnddaa
