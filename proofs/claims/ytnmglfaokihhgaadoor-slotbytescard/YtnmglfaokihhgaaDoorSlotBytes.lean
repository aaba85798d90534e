/- Bytes are apart just if no byte is in both, the same either way round; no bytes are apart from any: the law SlotBytes answers true at every input, and its arguments read behind the call as they read before. Condition: the listed table of package class is laid as the program's text lays it (the card ties it). -/
import Derived.Test.YtnmglfaokihhgaaDoorSltMath
import Derived.Test.YtnmglfaokihhgaaDoorOver
import Derived.Test.YtnmglfaokihhgaaDoorLaidC
namespace Go.Proofs.YtnmglfaokihhgaaDoor.slotBytes
open Go.ChangeShapes Go.WideShapes Go.ChangeAt Go.RowKit

/-- One of the first k bytes from a on is one of the d bytes from c on. -/
def Shares (a c d : Int) (k : Nat) : Prop := ∃ j : Nat, j < k ∧ c ≤ a + j ∧ a + j < c + d

theorem shares_zero (a c d : Int) : ¬ Shares a c d 0 := fun ⟨_, h, _⟩ => absurd h (by omega)
theorem shares_succ {a c d : Int} {k : Nat} : Shares a c d (k + 1) ↔ Shares a c d k ∨ (c ≤ a + k ∧ a + k < c + d) := by
  constructor
  · rintro ⟨j, h1, h2⟩
    by_cases h : j = k
    · subst h; exact .inr h2
    · exact .inl ⟨j, by omega, h2⟩
  · rintro (⟨j, h1, h2⟩ | h)
    · exact ⟨j, by omega, h2⟩
    · exact ⟨k, by omega, h⟩

theorem aparts_shares {a c d : Int} {b : Nat} (ha0 : 0 ≤ a) (ha1 : a < 60) (hb : b < 30) (hc0 : 0 ≤ c) (hc1 : c < 60) (hd0 : 0 ≤ d) (hd1 : d < 30) (y : Bool) (h : y = true ↔ Shares a c d b) :
    Cls.aparts a b c d = !y ∧ Cls.aparts c d a b = !y := by
  have hd : ∀ (p q r s : Bool), (p || q || r || s) = true ↔ (p = true ∨ q = true ∨ r = true ∨ s = true) := by decide
  cases y with
  | true =>
    obtain ⟨j, h1, h2, h3⟩ := h.1 rfl
    constructor
    · unfold Cls.aparts Cls.nears
      rw [if_pos (by omega), Bool.not_true, ← Bool.not_eq_true, hd]
      simp
      omega
    · unfold Cls.aparts Cls.nears
      rw [if_pos (by omega), Bool.not_true, ← Bool.not_eq_true, hd]
      simp
      omega
  | false =>
    have hn : ¬ Shares a c d b := fun hs => by have := h.2 hs; cases this
    have hx : (b : Int) = 0 ∨ d = 0 ∨ a + b ≤ c ∨ c + d ≤ a := by
      by_cases hh : (b : Int) = 0 ∨ d = 0 ∨ a + b ≤ c ∨ c + d ≤ a
      · exact hh
      · exact absurd ⟨(max (c - a) 0).toNat, by omega, by omega, by omega⟩ hn
    constructor
    · unfold Cls.aparts Cls.nears
      rw [if_pos (by omega), Bool.not_false, hd]
      simpa using hx
    · unfold Cls.aparts Cls.nears
      rw [if_pos (by omega), Bool.not_false, hd]
      simp
      omega

theorem aparts_low (b c d : Int) : Cls.aparts (-1) b c d = false := by unfold Cls.aparts Cls.nears; rw [if_neg (by omega)]
theorem aparts_high (a b c : Int) : Cls.aparts a b c 1099511627777 = false := by unfold Cls.aparts Cls.nears; rw [if_neg (by omega)]

set_option maxHeartbeats 2000000 in
theorem core (at' n to' m : Nat) (hat : at' < 256) (hnn : n < 256) (hto : to' < 256) (hmm : m < 256) (a : Int) (b : Nat) (c d : Int) (hA : (at' : Int) % 60 = a) (hB : (n : Int) % 30 = b) (hC : (to' : Int) % 60 = c) (hD : (m : Int) % 30 = d)
    (ha0 : 0 ≤ a) (ha1 : a < 60) (hb : b < 30) (hc0 : 0 ≤ c) (hc1 : c < 60) (hd0 : 0 ≤ d) (hd1 : d < 30) (w : World) (hok : ClsOk w w) :
    Calls Tryd.prog 6 #[.int .u8 (at' : Int), .int .u8 (n : Int), .int .u8 (to' : Int), .int .u8 (m : Int)] w fun e w' => e = .returned (.bool true) ∧ ClsOk w w' := by
  go_enter Tryd.func6, Tryd.ntmps6
  go_wp2
  go_loop [13, 14] (fun co i => ∃ (k : Nat) (y : Bool), k ≤ b ∧ i = .int .i64 (a + k) ∧ co = .bool y ∧ Hid (y = true ↔ Shares a c d k)) (fun _ i => (a + b - intOf i).toNat)
  case atStart => exact ⟨0, false, Nat.zero_le _, by simp [hA], rfl, hide (by simp [shares_zero])⟩
  case round =>
    obtain ⟨k, y, hk, rfl, rfl, hy⟩ := hrel
    by_cases hlt : k < b
    · have d0 : decide (a + (k : Int) < a + (b : Int)) = true := by simp; omega
      by_cases h1 : c ≤ a + (k : Int)
      · have d1 : decide (c ≤ a + (k : Int)) = true := by simpa using h1
        by_cases h2 : a + (k : Int) < c + d
        · have d2 : decide (a + (k : Int) < c + d) = true := by simpa using h2
          go_wp2
          go_round
          case rel =>
            refine ⟨k + 1, true, by omega, by go_num, rfl, ?_⟩
            show _ ↔ _
            rw [shares_succ]
            simp [h1, h2]
          case measure => simp [intOf]; omega
        · have d2 : decide (a + (k : Int) < c + d) = false := by simpa using h2
          go_wp2
          go_round
          case rel =>
            refine ⟨k + 1, y, by omega, by go_num, rfl, ?_⟩
            show _ ↔ _
            rw [shares_succ, hy.out]
            simp [h2]
          case measure => simp [intOf]; omega
      · have d1 : decide (c ≤ a + (k : Int)) = false := by simpa using h1
        go_wp2
        go_round
        case rel =>
          refine ⟨k + 1, y, by omega, by go_num, rfl, ?_⟩
          show _ ↔ _
          rw [shares_succ, hy.out]
          simp [h1]
        case measure => simp [intOf]; omega
    · obtain rfl : k = b := by omega
      have h1 := aparts_shares ha0 ha1 hb hc0 hc1 hd0 hd1 y hy.out
      have H1 := hide h1.1
      have H2 := hide h1.2
      have H3 := hide (aparts_low (k : Int) c d)
      have H4 := hide (aparts_high a (k : Int) c)
      clear h1 hy hlt
      go_wp2_with fail
      refine (sapartOk a (k : Int) c d _ H1.out hok).mono ?_
      rintro e w1 ⟨rfl, hok1⟩
      go_wp2_with fail
      refine (sapartOk c d a (k : Int) _ H2.out hok1).mono ?_
      rintro e w2 ⟨rfl, hok2⟩
      go_wp2_with fail
      refine (sapartOk (-1) (k : Int) c d _ H3.out hok2).mono ?_
      rintro e w3 ⟨rfl, hok3⟩
      go_wp2_with fail
      refine (sapartOk a (k : Int) c 1099511627777 _ H4.out hok3).mono ?_
      rintro e w4 ⟨rfl, hok4⟩
      go_wp2_with fail
      refine (awakeOk5 hok4).mono ?_
      rintro e w5 ⟨rfl, hok5⟩
      go_wp2
      go_ret
      exact ⟨rfl, hok5⟩

theorem walk (at' : Nat) (hat : at' < 256) (n : Nat) (hn : n < 256) (to' : Nat) (hto : to' < 256) (m : Nat) (hm : m < 256) (w : World) (hT : ClsTab w) :
    Calls Tryd.prog 6 #[.int .u8 (at' : Int), .int .u8 (n : Int), .int .u8 (to' : Int), .int .u8 (m : Int)] w fun e w' => e = .returned (.bool true) ∧ Below w.heap.size w w' :=
  (core at' n to' m hat hn hto hm _ (n % 30) _ _ rfl (by omega) rfl rfl (by omega) (by omega) (by omega) (by omega) (by omega) (by omega) (by omega) w (.start hT)).mono fun _ _ ⟨he, hb⟩ => ⟨he, hb.below⟩

set_option maxRecDepth 100000 in
theorem lifted (os : Os) (started : os.Started) (H : Type) (enc : TypeId × Value → H) :
    ReturnsInHanded {} Tryd.checked os 6 .any (fun w args => (Rows.slotBytesSpec.pre enc Tryd.prog Tryd.f6 [] false w args ∧ laidMetH Tryd.prog laidL w) ∧ sizedMet enc Tryd.prog Tryd.f6 (OpenSpec.ofChange Rows.slotBytesSpec) false w args)
      (Rows.slotBytesSpec.post enc Tryd.prog Tryd.f6 false true false false) := by
  refine returnsInHanded_of_change_and (C := Tryd.checked) (X := fun w _ => laidMetH Tryd.prog laidL w) (fun _ _ _ hh h => h.of_heap hh) own started (by kernel_rfl) Tryd.func6
    (ChangeSpec.witness_shaped (enc := enc) (C := Tryd.checked) (os := os) (X := fun w _ => laidMetH Tryd.prog laidL w) false (World.doorLaid Tryd.prog 400 os) #[.int .u8 0, .int .u8 0, .int .u8 0, .int .u8 0] 8 rfl (World.shaped_of_RefB (by kernel_rfl) (by kernel_rfl)) (by kernel_rfl) (by kernel_rfl) (by kernel_rfl) (door_met os _)) ?_
  intro W base args ds gs before hval0 hW _ _ hL _
  have hval : ∀ (j : Nat) t v, Tryd.f6.params[j]? = some t → args[j]? = some v → Value.okWide Tryd.prog W .any base t v := hval0
  have hW' := hW
  obtain ⟨p, q, hA0, hV, rfl, hfz, hnd⟩ := hW
  have hA : DataW.TrodAll enc Tryd.prog W 0 (fun _ => true) true Tryd.f6.params.toList args.toList ds p := hA0
  rw [Tryd.params6] at hA hval
  obtain ⟨v0, vs0, d0, ds0, p0, q0, hargs, rfl, rfl, h0, r0⟩ := trodAll_cons hA
  obtain ⟨v1, vs1, d1, ds1, p1, q1, rfl, rfl, rfl, h1, r1⟩ := trodAll_cons r0
  obtain ⟨v2, vs2, d2, ds2, p2, q2, rfl, rfl, rfl, h2, r2⟩ := trodAll_cons r1
  obtain ⟨v3, vs3, d3, ds3, p3, q3, rfl, rfl, rfl, h3, r3⟩ := trodAll_cons r2
  obtain ⟨rfl, rfl, rfl⟩ := trodAll_nil r3
  obtain rfl : args = #[v0, v1, v2, v3] := by cases args; simp_all
  obtain ⟨rfl, rfl⟩ := trodVars_none hV
  obtain ⟨a0, rfl, rfl, rfl, w0⟩ := open_int Tryd.underlying5 (hval 0 5 v0 rfl rfl) h0
  obtain ⟨a1, rfl, rfl, rfl, w1⟩ := open_int Tryd.underlying5 (hval 1 5 v1 rfl rfl) h1
  obtain ⟨a2, rfl, rfl, rfl, w2⟩ := open_int Tryd.underlying5 (hval 2 5 v2 rfl rfl) h2
  obtain ⟨a3, rfl, rfl, rfl, w3⟩ := open_int Tryd.underlying5 (hval 3 5 v3 rfl rfl) h3
  clear hA0 hval0
  obtain ⟨x0, hx0, rfl⟩ := u8_nat w0
  obtain ⟨x1, hx1, rfl⟩ := u8_nat w1
  obtain ⟨x2, hx2, rfl⟩ := u8_nat w2
  obtain ⟨x3, hx3, rfl⟩ := u8_nat w3
  refine (walk x0 hx0 x1 hx1 x2 hx2 x3 hx3 W (tab_of_laid hL)).mono fun e W' ⟨he, bel⟩ => ?_
  subst he
  exact ⟨_, rfl, _, _, _, [], _, [], hW', trodAll_mk1 (shut_bool Tryd.underlying4 _), (trodAll_cons_mk (shut_int Tryd.underlying5 w0) (trodAll_cons_mk (shut_int Tryd.underlying5 w1) (trodAll_cons_mk (shut_int Tryd.underlying5 w2) (trodAll_cons_mk (shut_int Tryd.underlying5 w3) trodAll_mk0)))), rfl, bel.frame _, fun h => by cases h⟩

theorem over : Rows.SlotBytesSaid :=
  OpenClaim.holds_of_wide 6 Tryd.f6 rfl rfl rfl rfl rfl rfl rfl ⟨rfl, rfl, rfl, rfl, rfl⟩ rfl rfl rfl rfl rfl (by kernel_rfl) Tryd.func6 (by kernel_rfl)
    (of_decide_eq_true (by kernel_rfl)) (by unfold Func.isWrapper; first | (rw [if_pos (by decide +kernel)]; kernel_rfl) | (rw [if_neg (by decide +kernel)]; exact ⟨rfl, rfl⟩))
    (fun os started H enc _ => lifted os started H enc)
end Go.Proofs.YtnmglfaokihhgaaDoor.slotBytes
namespace Go.Proofs.YtnmglfaokihhgaaDoor

theorem slotBytes_card : Rows.SlotBytesCardSaid :=
  Claim7.holds_tied_plain_at .later [] [.data] true (true, "55182bb537bdda8404fd22694538d947dd7c899b45e29a7eaf71c92aec332654") false
    slotBytes.over (fun _ h => by cases h) (by kernel_rfl) (fun _ h => by cases h) slotBytes_row_tie rfl ⟨rfl, rfl⟩ (by kernel_rfl) rfl
    (fun f fn hf hfn => by
      obtain rfl : f = 6 := Option.some.inj ((show Tryd.prog.funcNamed Rows.slotBytesRow.func = some 6 by kernel_rfl).symm.trans hf) |>.symm
      obtain rfl : fn = Tryd.f6 := (Option.some.inj (Tryd.func6.symm.trans hfn)).symm
      exact ⟨by kernel_rfl, fun j t ht => by
        rw [Tryd.params6] at ht
        have hm : t ∈ [5, 5, 5, 5] := by simpa using Array.mem_of_getElem? ht
        have hall : ([5, 5, 5, 5].all fun u => !Tryd.prog.wantsStandIn u) = true := by kernel_rfl
        exact (show Tryd.prog.wantsStandIn t = false by simpa using List.all_eq_true.1 hall t hm)⟩)
    (by kernel_rfl)
end Go.Proofs.YtnmglfaokihhgaaDoor
