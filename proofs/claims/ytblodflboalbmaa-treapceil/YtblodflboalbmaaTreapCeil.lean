/- What is found from a key on is there, and none between; each key is found from itself; keys rise: the law TreapCeil answers true at every input, and its arguments read behind the call as they read before. -/
import Derived.Test.YtblodflboalbmaaTreSo
import Derived.Test.YtblodflboalbmaaTreOpen
import Derived.Test.YtblodflboalbmaaTreList
namespace Go.Proofs.Ytblodflboalbmaa.treapCeil
open Go.ChangeShapes Go.WideShapes Go.ChangeAt Go.RowKit

/-- Has one been found among the first i? -/
def Fnd (L : List (It ByteArray)) (key : Int) (i : Nat) : Prop := ∃ j, j < i ∧ key ≤ keyAt L j
open Classical in
noncomputable def fnd (L : List (It ByteArray)) (key : Int) (i : Nat) : Bool := decide (Fnd L key i)
theorem fnd_true {L : List (It ByteArray)} {key : Int} {i : Nat} (h : Fnd L key i) : fnd L key i = true := by simp [fnd, h]
theorem fnd_false {L : List (It ByteArray)} {key : Int} {i : Nat} (h : ¬ Fnd L key i) : fnd L key i = false := by simp [fnd, h]
theorem fnd_cases (L : List (It ByteArray)) (key : Int) (i : Nat) : (fnd L key i = true ∧ Fnd L key i) ∨ (fnd L key i = false ∧ ∀ j, j < i → keyAt L j < key) := by
  by_cases h : Fnd L key i
  · exact .inl ⟨fnd_true h, h⟩
  · exact .inr ⟨fnd_false h, fun j hj => by
      by_cases q : keyAt L j < key
      · exact q
      · exact absurd ⟨j, hj, by omega⟩ h⟩

def V : ByteArray := ⟨#[118]⟩
theorem fnd_up {L : List (It ByteArray)} {key : Int} {i : Nat} (h : fnd L key i = true) : fnd L key (i + 1) = true := by
  rcases fnd_cases L key i with ⟨_, j, hj, hk⟩ | ⟨q, _⟩
  · exact fnd_true ⟨j, by omega, hk⟩
  · rw [q] at h; cases h
theorem fnd_here {L : List (It ByteArray)} {key : Int} {i : Nat} (h : key ≤ keyAt L i) : fnd L key (i + 1) = true := fnd_true ⟨i, by omega, h⟩
theorem fnd_not {L : List (It ByteArray)} {key : Int} {i : Nat} (h : keyAt L i < key) : fnd L key (i + 1) = fnd L key i := by
  rcases fnd_cases L key i with ⟨q, _⟩ | ⟨q, hall⟩
  · rw [q, fnd_up q]
  · rw [q, fnd_false]
    rintro ⟨j, hj, hk⟩
    rcases Nat.lt_or_ge j i with hji | hji
    · have := hall j hji; omega
    · obtain rfl : j = i := by omega
      omega
theorem ints_at {W : World} {va : Option Addr} {m vc : Nat} {l : List Int} (h : IntsV W (.slice va m vc) l) {k : Nat} (hk : k < l.length) : ∃ g, va = some ⟨g, 0, none⟩ ∧ g < W.heap.size ∧ ∀ i, i < l.length → W.cell? ⟨g, i, none⟩ = some (.int .i64 (l.getD i 0)) := by
  obtain ⟨a, c, e, h⟩ := h
  cases e
  exact h (fun q => by rw [q] at hk; simp at hk)

set_option maxHeartbeats 4000000 in
set_option maxRecDepth 100000 in
theorem walk (ao : Option Addr) (len cap : Nat) (hlc : len ≤ cap) (hcm : cap ≤ maxLen) (key : Int) (_hk : -9223372036854775808 ≤ key ∧ key ≤ 9223372036854775807) (w : World)
    (hf : ∃ f : Nat → Int, ∀ k, k < len → (-9223372036854775808 ≤ f k ∧ f k ≤ 9223372036854775807) ∧ At w ao k (.int .i64 (f k))) :
    Calls Try.prog 6 #[.slice ao len cap, .int .i64 key] w fun e w' => e = .returned (.bool true) ∧ Below w.heap.size w w' := by
  obtain ⟨f, hf⟩ := hf
  have HF := hide hf
  have hlen : len ≤ 9223372036854775807 := by unfold maxLen at hcm; omega
  clear hf hcm hlc
  go_enter Try.func6, Try.ntmps6
  go_wp2_with fail
  refine (newOS w).mono ?_
  rintro x w1 ⟨rfl, h1⟩
  have H1 := hide h1
  clear h1
  go_wp2
  go_loopw [6] (fun i wr => ∃ k : Nat, k ≤ 80 ∧ i = .int .i64 (k : Int) ∧ Hid (∃ L, L.length ≤ k ∧ (∀ i ∈ L, i.2.2 = V) ∧ OneS (fun x => w.heap.size ≤ x) w wr w.heap.size L)) (fun i _ => 80 - (intOf i).toNat)
  case atStart => exact ⟨0, Nat.zero_le _, rfl, ⟨[], Nat.le_refl _, by simp, H1.out⟩⟩
  case round =>
    obtain ⟨k, hk, rfl, hh⟩ := hrel
    clear H1
    by_cases hlt : k < len ∧ k < 80
    · obtain ⟨hl1, hl2⟩ := hlt
      obtain ⟨L, hL, hLV, h2⟩ := hh.out
      obtain ⟨b, o, rfl, hc⟩ := ((HF.out k hl1).2).below h2.back
      have HP := hide (putOS h2 (f k) (k * 7 % 11) V (by omega))
      rw [show ((k * 7 % 11 : Nat) : Int) = (k : Int) * 7 % 11 by omega] at HP
      have HL := hide hL
      have HLV := hide hLV
      have hq : ((k : Int) * 7).tmod 11 = (k : Int) * 7 % 11 := by rw [Int.tmod_eq_emod_of_nonneg (by omega)]
      generalize f k = y at hc HP HLV
      clear hh h2 hL hLV
      go_wp2_with fail
      refine HP.out.mono ?_
      rintro x w3 ⟨rfl, h3⟩
      have H3 := hide h3
      clear h3
      go_wp2
      go_roundw
      case rel =>
        refine ⟨k + 1, by omega, by go_num, ⟨_, Nat.le_trans putL_le (by have := HL.out; omega), fun i hi => ?_, H3.out⟩⟩
        rcases putL_mem.1 hi with hi | ⟨_, rfl⟩
        · exact HLV.out i hi
        · rfl
      case measure => simp [intOf]; omega
    · have hx : ¬ k < len ∨ (k < len ∧ ¬ k < 80) := by omega
      clear hlt
      obtain ⟨L, hL, hLV, h2⟩ := hh.out
      have hr := h2.ris
      obtain ⟨m, hm⟩ : ∃ m, L.length = m := ⟨_, rfl⟩
      have hm80 : m ≤ 80 := by omega
      clear hh HF
      have main : ∃ (K0 : Int) (V0 : ByteArray) (OK : Bool), (∀ i, i < m → key ≤ keyAt L i → (∀ j, j < i → keyAt L j < key) → OK = true ∧ K0 = keyAt L i ∧ V0 = V) ∧ OK = fnd L key m ∧
          ∀ wq, OneS (fun x => w.heap.size ≤ x) w wq w.heap.size L → Calls Try.prog 30 #[.pointer (some ⟨w.heap.size, 0, none⟩), .int .i64 key] wq fun x w' => x = .returned (.tuple #[.int .i64 K0, .string V0, .bool OK]) ∧ OneS (fun x => w.heap.size ≤ x) w w' w.heap.size L ∧ Below wq.heap.size wq w' := by
        rw [← hm]
        rcases ceil_row hr key with ⟨hc, hall⟩ | ⟨⟨k0, d0, v0⟩, hc, hmem, ⟨i, hi, hki⟩, hfirst⟩
        · refine ⟨0, ⟨#[]⟩, false, fun i hi hk _ => ?_, ?_, fun wq hq => ceilNoOS hq key hc⟩
          · have := hall i hi; omega
          · rw [fnd_false]; rintro ⟨j, hj, hk⟩; have := hall j hj; omega
        · exact ⟨k0, v0, true, fun i hi hk hb => ⟨rfl, hfirst i hi hk hb, hLV _ hmem⟩, (fnd_true ⟨i, hi, hki⟩).symm, fun wq hq => ceilYesOS hq key k0 d0 v0 hc⟩
      obtain ⟨K0, V0, OK, hO1, hO2, hCe⟩ := main
      have HO1 := hide hO1
      have HO2 := hide hO2
      have HCE := hide hCe
      have HR := hide hr
      have HM := hide hm
      have HLV := hide hLV
      have HKE := hide (keysOS h2 (by omega))
      clear hO1 hO2 hCe hr hLV hL h2 hm
      rcases hx with hx | ⟨hx, hy⟩ <;> (
        go_wp2_with fail
        refine HKE.out.mono ?_
        rintro x w3 ⟨v, rfl, h3, _, _, h4⟩
        have HV := hide h3
        have H4 := hide h4
        obtain ⟨va, vc, rfl, _⟩ := h3
        rw [List.length_map, HM.out] at HV ⊢
        clear h4
        go_wp2_with fail
        refine (HCE.out _ H4.out).mono ?_
        rintro x w5 ⟨rfl, h5, hb5⟩
        have H5 := hide h5
        have HV5 := hide (HV.out.below hb5)
        clear h5 hb5
        go_wp2
        go_loopw [11, 12] (fun fo i wr => ∃ k : Nat, k ≤ m ∧ i = .int .i64 (k : Int) ∧ fo = .bool (fnd L key k) ∧ Hid (OneS (fun x => w.heap.size ≤ x) w wr w.heap.size L ∧ IntsV wr (.slice va m vc) (L.map (·.1)))) (fun _ i _ => m - (intOf i).toNat)
        case atStart => exact ⟨0, Nat.zero_le _, rfl, by rw [fnd_false (by rintro ⟨j, hj, _⟩; omega)], ⟨H5.out, HV5.out⟩⟩
        case round =>
          clear H5 HV5 H4 HV HKE
          obtain ⟨k, hk, rfl, rfl, hh⟩ := hrel
          by_cases hlt : k < m
          · obtain ⟨h6, h7⟩ := hh.out
            have hkL : k < L.length := by rw [HM.out]; exact hlt
            have hkl : k < (L.map (·.1)).length := by rw [List.length_map]; exact hkL
            obtain ⟨g, rfl, hgl, hcells⟩ := ints_at h7 hkl
            obtain ⟨it, hit, eit⟩ := keyAt_mem hkL
            have hce := fun n => ceilYesOS (h6.alike (Alike.drewN wr n)) it.1 it.1 it.2.1 it.2.2 (ceilL_self HR.out hit)
            rw [eit, HLV.out it hit] at hce
            have c1 : wr.cell? ⟨g, k, none⟩ = some (.int .i64 (keyAt L k)) := hcells k hkl
            have HIV := hide h7
            have HFC := hide (fnd_cases L key k)
            have HO1k := hide (HO1.out k hlt)
            have HNOT := hide (fun h => fnd_not (L := L) (key := key) (i := k) h)
            have HHERE := hide (fun h => fnd_here (L := L) (key := key) (i := k) h)
            have HUP := hide (fun h => fnd_up (L := L) (key := key) (i := k) h)
            have HLT := hide (fun j (hj : j + 1 = k) => keyAt_lt HR.out (i := j) (j := k) (by omega) hkL)
            have HCJ := hide (fun j (hj : j + 1 = k) => hcells j (by omega))
            have HC := hide hce
            obtain ⟨y, hy⟩ : ∃ y, keyAt L k = y := ⟨_, rfl⟩
            rw [hy] at HC c1 HO1k HNOT HHERE HLT
            clear h6 h7 hh hce hcells hit eit hy hkl hkL
            unfold V at HC HO1k
            have hk0 : k = 0 ∨ ∃ j, j + 1 = k := by
              cases k with
              | zero => exact .inl rfl
              | succ j => exact .inr ⟨j, rfl⟩
            rcases hk0 with hk0 | ⟨j, hj⟩
            · have d1 : decide (0 < k) = false := by simp; omega
              have d2 : decide ((0 : Int) < (k : Int)) = false := by simp; omega
              clear HLT HCJ hk0
              by_cases hyk : y < key
              · have dyk : decide (key ≤ y) = false := by simp; omega
                have HFN := hide (HNOT.out hyk)
                generalize fnd L key k = F0 at *
                clear hyk HNOT HHERE HUP HFC HO1k
                go_wp2
                go_quiet (fail)
                go_wp2_with fail
                refine (HC.out _).mono ?_
                rintro x w6 ⟨rfl, h8, hb8⟩
                have c3 : w6.cell? ⟨g, k, none⟩ = some (.int .i64 y) := (hb8.cell (p := ⟨g, k, none⟩) hgl).trans c1
                have H8 := hide h8
                have H9 := hide (HIV.out.below (belowAlike hb8 (Alike.drewN wr nq)))
                clear h8 hb8
                go_wp2
                go_roundw
                case rel => exact ⟨k + 1, by omega, by go_num, by rw [HFN.out], ⟨H8.out, H9.out⟩⟩
                case measure => simp [intOf]; omega
              · have dyk : decide (key ≤ y) = true := by simp; omega
                rcases HFC.out with ⟨hF, _⟩ | ⟨hF, hall⟩
                · have HFN := hide (HUP.out hF)
                  rw [hF]
                  clear hyk HNOT HHERE HUP HFC HO1k hF
                  go_wp2
                  go_quiet (fail)
                  go_wp2_with fail
                  refine (HC.out _).mono ?_
                  rintro x w6 ⟨rfl, h8, hb8⟩
                  have c3 : w6.cell? ⟨g, k, none⟩ = some (.int .i64 y) := (hb8.cell (p := ⟨g, k, none⟩) hgl).trans c1
                  have H8 := hide h8
                  have H9 := hide (HIV.out.below (belowAlike hb8 (Alike.drewN wr nq)))
                  clear h8 hb8
                  go_wp2
                  go_roundw
                  case rel => exact ⟨k + 1, by omega, by go_num, by rw [HFN.out], ⟨H8.out, H9.out⟩⟩
                  case measure => simp [intOf]; omega
                · obtain ⟨rfl, e2, e3⟩ := HO1k.out (by omega) hall
                  replace e2 := e2.symm
                  subst e2 e3
                  have HFN := hide (HHERE.out (by omega))
                  rw [hF]
                  clear hyk HNOT HHERE HUP HFC HO1k hF hall
                  go_wp2
                  go_quiet (fail)
                  go_wp2_with fail
                  refine (HC.out _).mono ?_
                  rintro x w6 ⟨rfl, h8, hb8⟩
                  have c3 : w6.cell? ⟨g, k, none⟩ = some (.int .i64 y) := (hb8.cell (p := ⟨g, k, none⟩) hgl).trans c1
                  have H8 := hide h8
                  have H9 := hide (HIV.out.below (belowAlike hb8 (Alike.drewN wr nq)))
                  clear h8 hb8
                  go_wp2
                  go_roundw
                  case rel => exact ⟨k + 1, by omega, by go_num, by rw [HFN.out], ⟨H8.out, H9.out⟩⟩
                  case measure => simp [intOf]; omega
            · have c0 : wr.cell? ⟨g, j, none⟩ = some (.int .i64 (keyAt L j)) := HCJ.out j hj
              have dxy : decide (y ≤ keyAt L j) = false := by have := HLT.out j hj; simp; omega
              have d1 : decide (0 < k) = true := by simp; omega
              have d2 : decide ((0 : Int) < (k : Int)) = true := by simp; omega
              have hjk : (k : Int) - 1 = (j : Int) := by omega
              have hjm : j < m := by omega
              generalize keyAt L j = x0 at c0 dxy
              clear HLT HCJ hj
              by_cases hyk : y < key
              · have dyk : decide (key ≤ y) = false := by simp; omega
                have HFN := hide (HNOT.out hyk)
                generalize fnd L key k = F0 at *
                clear hyk HNOT HHERE HUP HFC HO1k
                go_wp2
                go_quiet (fail)
                go_wp2_with fail
                refine (HC.out _).mono ?_
                rintro x w6 ⟨rfl, h8, hb8⟩
                have c3 : w6.cell? ⟨g, k, none⟩ = some (.int .i64 y) := (hb8.cell (p := ⟨g, k, none⟩) hgl).trans c1
                have H8 := hide h8
                have H9 := hide (HIV.out.below (belowAlike hb8 (Alike.drewN wr nq)))
                clear h8 hb8
                go_wp2
                go_roundw
                case rel => exact ⟨k + 1, by omega, by go_num, by rw [HFN.out], ⟨H8.out, H9.out⟩⟩
                case measure => simp [intOf]; omega
              · have dyk : decide (key ≤ y) = true := by simp; omega
                rcases HFC.out with ⟨hF, _⟩ | ⟨hF, hall⟩
                · have HFN := hide (HUP.out hF)
                  rw [hF]
                  clear hyk HNOT HHERE HUP HFC HO1k hF
                  go_wp2
                  go_quiet (fail)
                  go_wp2_with fail
                  refine (HC.out _).mono ?_
                  rintro x w6 ⟨rfl, h8, hb8⟩
                  have c3 : w6.cell? ⟨g, k, none⟩ = some (.int .i64 y) := (hb8.cell (p := ⟨g, k, none⟩) hgl).trans c1
                  have H8 := hide h8
                  have H9 := hide (HIV.out.below (belowAlike hb8 (Alike.drewN wr nq)))
                  clear h8 hb8
                  go_wp2
                  go_roundw
                  case rel => exact ⟨k + 1, by omega, by go_num, by rw [HFN.out], ⟨H8.out, H9.out⟩⟩
                  case measure => simp [intOf]; omega
                · obtain ⟨rfl, e2, e3⟩ := HO1k.out (by omega) hall
                  replace e2 := e2.symm
                  subst e2 e3
                  have HFN := hide (HHERE.out (by omega))
                  rw [hF]
                  clear hyk HNOT HHERE HUP HFC HO1k hF hall
                  go_wp2
                  go_quiet (fail)
                  go_wp2_with fail
                  refine (HC.out _).mono ?_
                  rintro x w6 ⟨rfl, h8, hb8⟩
                  have c3 : w6.cell? ⟨g, k, none⟩ = some (.int .i64 y) := (hb8.cell (p := ⟨g, k, none⟩) hgl).trans c1
                  have H8 := hide h8
                  have H9 := hide (HIV.out.below (belowAlike hb8 (Alike.drewN wr nq)))
                  clear h8 hb8
                  go_wp2
                  go_roundw
                  case rel => exact ⟨k + 1, by omega, by go_num, by rw [HFN.out], ⟨H8.out, H9.out⟩⟩
                  case measure => simp [intOf]; omega
          · obtain ⟨h6, h7⟩ := hh.out
            have H6 := hide h6
            have hkm : k = m := by omega
            rw [hkm, ← HO2.out]
            have HLE := hide (lenOS h6)
            rw [HM.out] at HLE
            clear h6 h7 hh
            go_wp2_with fail
            refine HLE.out.mono ?_
            rintro x w7 ⟨rfl, rfl⟩
            go_wp2_with fail
            refine (awakeT _).mono ?_
            rintro x w8 ⟨rfl, h8⟩
            have H8 := hide (H6.out.below h8)
            clear h8
            go_wp2
            go_ret
            exact ⟨rfl, H8.out.back⟩)

set_option maxRecDepth 100000 in
theorem lifted (os : Os) (started : os.Started) (H : Type) (enc : TypeId × Value → H) :
    ReturnsInHanded {} Try.checked os 6 .any (Rows.treapCeilSpec.pre6 enc Try.prog Try.f6 Rows.treapCeilRow.domain false) (Rows.treapCeilSpec.post enc Try.prog Try.f6 false true false false) := by
  refine returnsInHanded_of_change (C := Try.checked) own started (by kernel_rfl) Try.func6
    (ChangeSpec.witness6 (enc := enc) (C := Try.checked) false ⟨#[], #[.slice none 0 0, .int .i64 0], []⟩ 8 (by kernel_rfl) (by kernel_rfl) (by kernel_rfl) (by kernel_rfl)) ?_
  intro W base args ds gs before hval0 hW _ _
  have hval : ∀ (j : Nat) t v, Try.f6.params[j]? = some t → args[j]? = some v → Value.okWide Try.prog W .any base t v := hval0
  have hW' := hW
  obtain ⟨p, q, hA0, hV, rfl, hfz, hnd⟩ := hW
  have hA : DataW.TrodAll enc Try.prog W 0 (fun _ => true) true Try.f6.params.toList args.toList ds p := hA0
  rw [Try.params6] at hA hval
  obtain ⟨v0, vs0, d0, ds0, p0, q0, hargs, rfl, rfl, h0, r0⟩ := trodAll_cons hA
  obtain ⟨v1, vs1, d1, ds1, p1, q1, rfl, rfl, rfl, h1, r1⟩ := trodAll_cons r0
  obtain ⟨rfl, rfl, rfl⟩ := trodAll_nil r1
  obtain rfl : args = #[v0, v1] := by cases args; simp_all
  obtain ⟨rfl, rfl⟩ := trodVars_none hV
  have h0k := h0
  have lt0 : ∀ x ∈ p0, x.block < W.heap.size := fun x hx => hW'.lt x (by simp [hx])
  obtain ⟨l0_0, l0_1, l0_2, rfl, f0_0, f0_1, f0_2⟩ := open_ints (hval 0 38 v0 rfl rfl) h0
  obtain ⟨a1, rfl, rfl, rfl, w1⟩ := open_int Try.underlying3 (hval 1 3 v1 rfl rfl) h1
  clear hA0 hval0
  have hx1 := i64_bd w1
  refine (walk l0_0 l0_1 l0_2 f0_0 f0_1 a1 hx1 W f0_2).mono fun e W' ⟨he, bel⟩ => ?_
  subst he
  exact ⟨_, rfl, _, _, _, [], _, [], hW', trodAll_mk1 (shut_bool Try.underlying4 _), (trodAll_cons_mk (Below.trod laidOut (by kernel_rfl) (of_decide_eq_true (by kernel_rfl)) h0k bel lt0) (trodAll_cons_mk (shut_int Try.underlying3 w1) trodAll_mk0)), rfl, bel.frame _, fun h => by cases h⟩

end Go.Proofs.Ytblodflboalbmaa.treapCeil
namespace Go.Proofs.Ytblodflboalbmaa

theorem treapCeil_holds : Rows.TreapCeilSaid :=
  OpenClaim.holds_of_wide 6 Try.f6 rfl rfl rfl rfl rfl rfl rfl ⟨rfl, rfl, rfl, rfl, rfl⟩ rfl rfl rfl rfl rfl (by kernel_rfl) Try.func6 (by kernel_rfl)
    (of_decide_eq_true (by kernel_rfl)) (by unfold Func.isWrapper; first | (rw [if_pos (by decide +kernel)]; kernel_rfl) | (rw [if_neg (by decide +kernel)]; exact ⟨rfl, rfl⟩))
    (fun os started H enc _ => treapCeil.lifted os started H enc)
end Go.Proofs.Ytblodflboalbmaa
