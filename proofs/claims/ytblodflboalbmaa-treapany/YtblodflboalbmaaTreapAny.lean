/- Of values of three types each call answers alike: the law TreapAny answers true at every input, and its arguments read behind the call as they read before. -/
import Derived.Test.YtblodflboalbmaaTreIp
import Derived.Test.YtblodflboalbmaaTreSp
import Derived.Test.YtblodflboalbmaaTreRp
import Derived.Test.YtblodflboalbmaaTreOpen
import Derived.Test.YtblodflboalbmaaTreText
namespace Go.Proofs.Ytblodflboalbmaa.treapAny
open Go.ChangeShapes Go.WideShapes Go.ChangeAt Go.RowKit

variable {β : Type}
/-- The same keys and draws, other values. -/
def mv (g : Int → Int → β) (i : It Int) : It β := (i.1, i.2.1, g i.1 i.2.2)
def mapV (g : Int → Int → β) (L : List (It Int)) : List (It β) := L.map (mv g)
theorem map_find (g : Int → Int → β) (p : Int → Bool) (L : List (It Int)) : (mapV g L).find? (fun i => p i.1) = (L.find? (fun i => p i.1)).map (mv g) := by
  induction L with
  | nil => rfl
  | cons a L ih =>
    simp only [mapV, List.map_cons, List.find?_cons] at ih ⊢
    show (match p a.1 with | true => _ | false => _) = _
    cases hp : p a.1 with
    | true => simp
    | false => simpa using ih
theorem map_get (g : Int → Int → β) (key : Int) (L : List (It Int)) : getL key (mapV g L) = (getL key L).map (mv g) := map_find g (fun k => decide (k = key)) L
theorem map_ceil (g : Int → Int → β) (key : Int) (L : List (It Int)) : ceilL key (mapV g L) = (ceilL key L).map (mv g) := map_find g (fun k => !decide (k < key)) L
theorem map_filter (g : Int → Int → β) (p : Int → Bool) (L : List (It Int)) : (mapV g L).filter (fun i => p i.1) = mapV g (L.filter (fun i => p i.1)) := by
  induction L with
  | nil => rfl
  | cons a L ih =>
    simp only [mapV, List.map_cons, List.filter_cons] at ih ⊢
    show (if p a.1 = true then _ else _) = _
    cases hp : p a.1 <;> simp [ih]
theorem map_del (g : Int → Int → β) (key : Int) (L : List (It Int)) : delL key (mapV g L) = mapV g (delL key L) := map_filter g (fun k => !decide (k = key)) L
theorem map_put (g : Int → Int → β) (key : Int) (d : Nat) (v : Int) (L : List (It Int)) : putL key d (g key v) (mapV g L) = mapV g (putL key d v L) := by
  unfold putL
  rw [map_get]
  cases getL key L with
  | none =>
    simp only [Option.map_none, Option.isNone_none, if_true, insL]
    rw [map_filter g (fun k => decide (k < key)), map_filter g (fun k => !decide (k < key))]
    simp [mapV, mv]
  | some i => simp
theorem map_len (g : Int → Int → β) (L : List (It Int)) : (mapV g L).length = L.length := by simp [mapV]
theorem map_keys (g : Int → Int → β) (L : List (It Int)) : (mapV g L).map (·.1) = L.map (·.1) := by simp [mapV, mv]
theorem map_rising (g : Int → Int → β) {L : List (It Int)} (h : Rising L) : Rising (mapV g L) := by
  unfold Rising mapV; rw [List.pairwise_map]; exact h
theorem map_shp (g : Int → Int → β) {L : List (It Int)} (h : Rising L) : shp (mapV g L) = shp L := shp_alike (map_rising g h) h (by simp [mapV, mv])
def gb (_ : Int) (v : Int) : ByteArray := txt v.toNat
def gc (k : Int) (v : Int) : Int × Int := (v, k)
/-- Values are what was handed in. -/
def Vals (L : List (It Int)) : Prop := ∀ i ∈ L, ∃ n : Nat, n < 150 ∧ i.2.2 = (n : Int)
abbrev Three (a b c : Nat) (L : List (It Int)) : Res := Sep (RTI a L) (Sep (RTR c (mapV gc L)) (RTS b (mapV gb L)))
theorem locT {a b c : Nat} {L : List (It Int)} : Loc (Three a b c L) := Loc.rt.sep (Loc.rt.sep Loc.rt)

set_option maxHeartbeats 4000000 in
set_option maxRecDepth 100000 in
theorem walk (ao : Option Addr) (len cap : Nat) (hlc : len ≤ cap) (hcm : cap ≤ maxLen) (key : Int) (_hk : -9223372036854775808 ≤ key ∧ key ≤ 9223372036854775807) (w : World)
    (hf : ∃ f : Nat → Nat × Int × Nat, ∀ k, k < len → ((f k).1 < 256 ∧ (-9223372036854775808 ≤ (f k).2.1 ∧ (f k).2.1 ≤ 9223372036854775807) ∧ (f k).2.2 < 4294967296) ∧ At w ao (k * 3) (.int .u8 ((f k).1 : Int)) ∧ At w ao (k * 3 + 1) (.int .i64 (f k).2.1) ∧ At w ao (k * 3 + 2) (.int .u32 ((f k).2.2 : Int))) :
    Calls Try.prog 8 #[.slice ao len cap, .int .i64 key] w fun e w' => e = .returned (.bool true) ∧ Below w.heap.size w w' := by
  obtain ⟨f, hf⟩ := hf
  have HF := hide hf
  have hlen : len ≤ 9223372036854775807 := by unfold maxLen at hcm; omega
  clear hf hcm hlc
  go_enter Try.func8, Try.ntmps8
  go_wp2_with fail
  refine (newPI Loc.nought (Own.start w)).mono ?_
  rintro x w1 ⟨rfl, h1⟩
  have H1 := hide h1.unit
  clear h1
  go_wp2_with fail
  refine (newPS Loc.rt H1.out).mono ?_
  rintro x w2 ⟨rfl, h2⟩
  have H2 := hide h2
  clear h2 H1
  go_wp2_with fail
  refine (newPR (Loc.rt.sep Loc.rt) H2.out).mono ?_
  rintro x w3 ⟨rfl, h3⟩
  have H3 : Hid (Own (Three w.heap.size w1.heap.size w2.heap.size []) w w3) := hide h3.rot.rot
  clear h3 H2
  generalize w1.heap.size = B at *
  generalize w2.heap.size = C at *
  go_wp2
  go_loopw [8] (fun i wr => ∃ k : Nat, k ≤ 150 ∧ i = .int .i64 (k : Int) ∧ Hid (∃ L, L.length ≤ k ∧ Vals L ∧ Own (Three w.heap.size B C L) w wr)) (fun i _ => 150 - (intOf i).toNat)
  case atStart => exact ⟨0, Nat.zero_le _, rfl, ⟨[], Nat.le_refl _, (by unfold Vals; simp), H3.out⟩⟩
  case round =>
    obtain ⟨k, hk, rfl, hh⟩ := hrel
    clear H3
    obtain ⟨L, hL, hva, ho⟩ := hh.out
    by_cases hlt : k < len ∧ k < 150
    · obtain ⟨hl1, hl2⟩ := hlt
      obtain ⟨⟨q1, q2, q3⟩, A0, A1, A2⟩ := HF.out k hl1
      obtain ⟨b, o, rfl, c0⟩ := A0.below ho.back
      obtain ⟨b', o', e1, c1⟩ := A1.below ho.back
      obtain ⟨b', o', e2, c2⟩ := A2.below ho.back
      cases e1
      cases e2
      have hbw : b < w.heap.size := by obtain ⟨b', o', e, h, _⟩ := A0; cases e; exact h
      obtain ⟨y, hy⟩ : ∃ y, (f k).2.1.tmod 24 = y := ⟨_, rfl⟩
      rw [← Nat.add_assoc] at c1 c2
      generalize (f k).1 = z0 at *
      generalize (f k).2.1 = z1 at *
      generalize (f k).2.2 = z2 at *
      have HO := hide ho
      have HVA := hide hva
      have HL := hide hL
      clear hh ho hva hL A0 A1 A2
      by_cases hz : z0 % 3 = 0
      · have dz : decide ((0 : Int) < (z0 : Int) % 3) = false := by simp; omega
        clear hz
        cases hg : getL y L with
        | none =>
          have HDA := hide (fun n => dropNoPI (Loc.rt.sep Loc.rt) (HO.out.below locT ((Alike.drewN wr n).below _)) y hg)
          have hgb : getL y (mapV gb L) = none := by rw [map_get, hg]; rfl
          have hgc : getL y (mapV gc L) = none := by rw [map_get, hg]; rfl
          have HGB := hide hgb
          have HGC := hide hgc
          clear hg hgb hgc HO
          go_wp2
          go_quiet (fail)
          go_wp2_with fail
          refine (HDA.out _).mono ?_
          rintro x w5 ⟨rfl, h5⟩
          have H5 := hide h5.rot.rot
          clear h5
          go_wp2_with fail
          refine (dropNoPS (Loc.rt.sep Loc.rt) H5.out y HGB.out).mono ?_
          rintro x w6 ⟨rfl, h6⟩
          have H6 := hide h6.rot.rot
          clear h6
          go_wp2_with fail
          refine (dropNoPR (Loc.rt.sep Loc.rt) H6.out y HGC.out).mono ?_
          rintro x w7 ⟨rfl, h7⟩
          have H7 := hide h7.rot.rot
          clear h7
          go_wp2
          go_roundw
          case rel => exact ⟨k + 1, by omega, by go_num, ⟨L, by have := HL.out; omega, HVA.out, H7.out.below locT ((Below.refl _ w7).alloc (Nat.le_refl _) _)⟩⟩
          case measure => simp [intOf]; omega
        | some i =>
          obtain ⟨k1, d1, v1⟩ := i
          obtain ⟨hm1, hk1⟩ := getL_spec hg
          obtain ⟨n, hn, hv⟩ := HVA.out _ hm1
          simp only at hk1 hv
          subst hk1 hv
          have HDA := hide (fun m => dropYesPI (Loc.rt.sep Loc.rt) (HO.out.below locT ((Alike.drewN wr m).below _)) k1 k1 d1 (n : Int) hg (by have := HL.out; omega))
          have HGB := hide (show getL k1 (mapV gb L) = some (k1, d1, txt n) by rw [map_get, hg]; rfl)
          have HGC := hide (show getL k1 (mapV gc L) = some (k1, d1, ((n : Int), k1)) by rw [map_get, hg]; rfl)
          clear hg HO hm1
          go_wp2
          go_quiet (fail)
          go_wp2_with fail
          refine (HDA.out _).mono ?_
          rintro x w5 ⟨rfl, h5⟩
          have H5 := hide h5.rot.rot
          clear h5
          go_wp2_with fail
          refine (dropYesPS (Loc.rt.sep Loc.rt) H5.out k1 k1 d1 (txt n) HGB.out (by rw [map_len]; have := HL.out; omega)).mono ?_
          rintro x w6 ⟨rfl, h6⟩
          rw [map_del] at h6
          have H6 := hide h6.rot.rot
          clear h6
          go_wp2_with fail
          refine (dropYesPR (Loc.rt.sep Loc.rt) H6.out k1 k1 d1 ((n : Int), k1) HGC.out (by rw [map_len]; have := HL.out; omega)).mono ?_
          rintro x w7 ⟨rfl, h7⟩
          rw [map_del] at h7
          have H7 : Hid (Own (Three w.heap.size B C (delL k1 L)) w w7) := hide h7.rot.rot
          clear h7
          go_wp2_with fail
          refine (textT n (by omega) _).mono ?_
          rintro x w8 ⟨rfl, h8⟩
          have H8 := hide ((H7.out.below locT ((Below.refl _ w7).alloc (Nat.le_refl _) _)).below locT h8)
          have hbx := (h8.block w7.heap.size (by simp)).trans (heap_alloc_at w7 (.cells #[.int .i64 (n : Int), .int .i64 k1] 66))
          have u0 : w8.cell? ⟨w7.heap.size, 0, none⟩ = some (.int .i64 (n : Int)) := cell_of_heap hbx
          have u1 : w8.cell? ⟨w7.heap.size, 1, none⟩ = some (.int .i64 k1) := cell_of_heap hbx
          clear h8 hbx
          generalize txt n = s at *
          go_wp2
          go_roundw
          case rel => exact ⟨k + 1, by omega, by go_num, ⟨_, Nat.le_trans delL_le (by have := HL.out; omega), fun i hi => HVA.out i (delL_sub hi), H8.out⟩⟩
          case measure => simp [intOf]; omega
      · have dz : decide ((0 : Int) < (z0 : Int) % 3) = true := by simp; omega
        clear hz
        have HPA := hide (fun n => putPI (Loc.rt.sep Loc.rt) (HO.out.below locT ((Alike.drewN wr n).below _)) y (z2 % 8) (k : Int) (by have := HL.out; omega))
        rw [show ((z2 % 8 : Nat) : Int) = (z2 : Int) % 8 by omega] at HPA
        have HNB := hide (show (getL y (mapV gb L)).isNone = (getL y L).isNone by rw [map_get]; simp)
        have HNC := hide (show (getL y (mapV gc L)).isNone = (getL y L).isNone by rw [map_get]; simp)
        have HVB := hide (show putL y (z2 % 8) (txt k) (mapV gb L) = mapV gb (putL y (z2 % 8) (k : Int) L) from map_put gb y (z2 % 8) (k : Int) L)
        have HVC := hide (show putL y (z2 % 8) ((k : Int), y) (mapV gc L) = mapV gc (putL y (z2 % 8) (k : Int) L) from map_put gc y (z2 % 8) (k : Int) L)
        clear HO
        go_wp2
        go_quiet (fail)
        go_wp2_with fail
        refine (HPA.out _).mono ?_
        rintro x w5 ⟨rfl, h5⟩
        have H5 := hide h5
        clear h5
        go_wp2_with fail
        refine (textT k (by omega) _).mono ?_
        rintro x w6 ⟨rfl, h6⟩
        have H6 := hide (H5.out.below (Loc.rt.sep (Loc.rt.sep Loc.rt)) h6).rot.rot
        clear h6
        go_wp2_with fail
        have hpb := putPS (Loc.rt.sep Loc.rt) H6.out y (z2 % 8) (txt k) (by rw [map_len]; have := HL.out; omega)
        rw [show ((z2 % 8 : Nat) : Int) = (z2 : Int) % 8 by omega, HNB.out, HVB.out] at hpb
        refine hpb.mono ?_
        rintro x w7 ⟨rfl, h7⟩
        have H7 := hide h7.rot.rot
        clear h7 hpb
        go_wp2_with fail
        have hpc := putPR (Loc.rt.sep Loc.rt) H7.out y (z2 % 8) ((k : Int), y) (by rw [map_len]; have := HL.out; omega)
        rw [show ((z2 % 8 : Nat) : Int) = (z2 : Int) % 8 by omega, HNC.out, HVC.out] at hpc
        refine hpc.mono ?_
        rintro x w8 ⟨rfl, h8⟩
        have H8 : Hid (Own (Three w.heap.size B C (putL y (z2 % 8) (k : Int) L)) w w8) := hide h8.rot.rot
        clear h8 hpc
        have HVP : Hid (Vals (putL y (z2 % 8) (k : Int) L)) := hide (fun i hi => by
          rcases putL_mem.1 hi with hi | ⟨_, rfl⟩
          · exact HVA.out i hi
          · exact ⟨k, hl2, rfl⟩)
        generalize (getL y L).isNone = bb at *
        go_wp2
        go_roundw
        case rel => exact ⟨k + 1, by omega, by go_num, ⟨_, Nat.le_trans putL_le (by have := HL.out; omega), HVP.out, H8.out⟩⟩
        case measure => simp [intOf]; omega
    · have hx : ¬ k < len ∨ (k < len ∧ ¬ k < 150) := by omega
      have HO := hide ho
      have HVA := hide hva
      have HL : Hid (L.length ≤ 150) := hide (by omega)
      have hr := ho.ris
      have HSA := hide (map_shp gb hr)
      have HSC := hide (map_shp gc hr)
      have HLE := hide (shp_length hr)
      have HRI := hide hr
      clear hh ho hva hL hlt HF hr
      cases hg : ceilL key L with
      | none =>
        have HGA := hide hg
        have HGB := hide (show ceilL key (mapV gb L) = none by rw [map_ceil, hg]; rfl)
        have HGC := hide (show ceilL key (mapV gc L) = none by rw [map_ceil, hg]; rfl)
        clear hg
        rcases hx with hx | ⟨hx, hx2⟩ <;> (
          go_wp2_with fail
          refine (ceilNoPI (Loc.rt.sep Loc.rt) HO.out key HGA.out).mono ?_
          rintro x w5 ⟨rfl, h5⟩
          have H5 := hide h5.rot.rot
          clear h5
          go_wp2_with fail
          refine (ceilNoPS (Loc.rt.sep Loc.rt) H5.out key HGB.out).mono ?_
          rintro x w6 ⟨rfl, h6⟩
          have H6 := hide h6.rot.rot
          clear h6
          go_wp2_with fail
          refine (ceilNoPR (Loc.rt.sep Loc.rt) H6.out key HGC.out).mono ?_
          rintro x w7 ⟨rfl, h7⟩
          have H8 := hide (h7.rot.rot.below locT ((Below.refl _ w7).alloc (Nat.le_refl _) (.cells #[.int .i64 0, .int .i64 0] 66)))
          clear h7
          go_wp2_with fail
          refine (shapePI (Loc.rt.sep Loc.rt) H8.out (by have := HL.out; omega)).mono ?_
          rintro x w10 ⟨v1, rfl, h10, hb10, ho10⟩
          have N1 := hide h10
          have H10 := hide ho10.rot.rot
          obtain ⟨a1, c1, rfl, _⟩ := h10
          clear ho10 hb10
          go_wp2_with fail
          refine (shapePS (Loc.rt.sep Loc.rt) H10.out (by rw [map_len]; have := HL.out; omega)).mono ?_
          rintro x w11 ⟨v2, rfl, h11, hb11, ho11⟩
          rw [HSA.out] at h11
          have HS := hide (sameNodes w11 _ _ (shp L) (N1.out.below hb11) h11 (by rw [HLE.out]; have := HL.out; omega))
          have H11 := hide ho11
          obtain ⟨a2, c2, rfl, _⟩ := h11
          clear ho11 hb11
          go_wp2_with fail
          refine HS.out.mono ?_
          rintro x w12 ⟨rfl, h12⟩
          have H12 := hide (H11.out.below (Loc.rt.sep (Loc.rt.sep Loc.rt)) (h12.below _))
          clear h12 HS
          go_wp2_with fail
          refine (shapePS (Loc.rt.sep Loc.rt) H12.out (by rw [map_len]; have := HL.out; omega)).mono ?_
          rintro x w13 ⟨v3, rfl, h13, hb13, ho13⟩
          rw [HSA.out] at h13
          have N2 := hide h13
          have H13 := hide ho13.rot.rot
          obtain ⟨a3, c3, rfl, _⟩ := h13
          clear ho13 hb13
          go_wp2_with fail
          refine (shapePR (Loc.rt.sep Loc.rt) H13.out (by rw [map_len]; have := HL.out; omega)).mono ?_
          rintro x w14 ⟨v4, rfl, h14, hb14, ho14⟩
          rw [HSC.out] at h14
          have HS := hide (sameNodes w14 _ _ (shp L) (N2.out.below hb14) h14 (by rw [HLE.out]; have := HL.out; omega))
          have H14 := hide ho14
          obtain ⟨a4, c4, rfl, _⟩ := h14
          clear ho14 hb14
          go_wp2_with fail
          refine HS.out.mono ?_
          rintro x w15 ⟨rfl, h15⟩
          have H15 := hide (H14.out.below (Loc.rt.sep (Loc.rt.sep Loc.rt)) (h15.below _)).rot.rot
          clear h15 HS
          go_wp2_with fail
          refine (keysPI (Loc.rt.sep Loc.rt) H15.out (by have := HL.out; omega)).mono ?_
          rintro x w16 ⟨v5, rfl, h16, hb16, ho16⟩
          have N3 := hide h16
          have H16 := hide ho16.rot
          obtain ⟨a5, c5, rfl, _⟩ := h16
          clear ho16 hb16
          go_wp2_with fail
          refine (keysPR (Loc.rt.sep Loc.rt) H16.out (by rw [map_len]; have := HL.out; omega)).mono ?_
          rintro x w17 ⟨v6, rfl, h17, hb17, ho17⟩
          rw [map_keys] at h17
          have HS := hide (sameInts w17 _ _ (L.map (·.1)) (N3.out.below hb17) h17 (by rw [List.length_map]; have := HL.out; omega))
          have H17 := hide ho17.rot
          obtain ⟨a6, c6, rfl, _⟩ := h17
          simp only [List.length_map] at HS
          clear ho17 hb17
          go_wp2_with fail
          refine HS.out.mono ?_
          rintro x w18 ⟨rfl, h18⟩
          have H18 := hide (H17.out.below (Loc.rt.sep (Loc.rt.sep Loc.rt)) (h18.below _))
          have HLB := hide (lenPS (Loc.rt.sep Loc.rt) H18.out)
          rw [map_len] at HLB
          clear h18 HS
          go_wp2_with fail
          refine HLB.out.mono ?_
          rintro x w19 ⟨rfl, rfl⟩
          have H19 := hide H18.out.rot
          go_wp2_with fail
          refine (keysPI (Loc.rt.sep Loc.rt) H19.out (by have := HL.out; omega)).mono ?_
          rintro x w20 ⟨v7, rfl, h20, hb20, ho20⟩
          have H20 := hide ho20
          obtain ⟨a7, c7, rfl, _⟩ := h20
          rw [List.length_map]
          clear ho20 hb20
          go_wp2_with fail
          refine (awakeT _).mono ?_
          rintro x w21 ⟨rfl, h21⟩
          have H21 := hide (H20.out.below (Loc.rt.sep (Loc.rt.sep Loc.rt)) h21)
          clear h21
          go_wp2
          go_ret
          exact ⟨rfl, H21.out.back⟩)
      | some i =>
        obtain ⟨k1, d1, v1⟩ := i
        obtain ⟨hm1, _, _⟩ := ceilL_some HRI.out hg
        obtain ⟨n, hn, hv⟩ := HVA.out _ hm1
        simp only at hv
        subst hv
        have HGA := hide hg
        have HGB := hide (show ceilL key (mapV gb L) = some (k1, d1, txt n) by rw [map_ceil, hg]; rfl)
        have HGC := hide (show ceilL key (mapV gc L) = some (k1, d1, ((n : Int), k1)) by rw [map_ceil, hg]; rfl)
        clear hg hm1
        rcases hx with hx | ⟨hx, hx2⟩ <;> (
          go_wp2_with fail
          refine (ceilYesPI (Loc.rt.sep Loc.rt) HO.out key k1 d1 (n : Int) HGA.out).mono ?_
          rintro x w5 ⟨rfl, h5⟩
          have H5 := hide h5.rot.rot
          clear h5
          go_wp2_with fail
          refine (ceilYesPS (Loc.rt.sep Loc.rt) H5.out key k1 d1 (txt n) HGB.out).mono ?_
          rintro x w6 ⟨rfl, h6⟩
          have H6 := hide h6.rot.rot
          clear h6
          go_wp2_with fail
          refine (ceilYesPR (Loc.rt.sep Loc.rt) H6.out key k1 d1 ((n : Int), k1) HGC.out).mono ?_
          rintro x w7 ⟨rfl, h7⟩
          have H7 : Hid (Own (Three w.heap.size B C L) w w7) := hide h7.rot.rot
          clear h7
          go_wp2_with fail
          refine (textT n (by omega) _).mono ?_
          rintro x w8 ⟨rfl, h8⟩
          have H8 := hide ((H7.out.below locT ((Below.refl _ w7).alloc (Nat.le_refl _) _)).below locT h8)
          have hbx := (h8.block w7.heap.size (by simp)).trans (heap_alloc_at w7 (.cells #[.int .i64 (n : Int), .int .i64 k1] 66))
          have u0 : w8.cell? ⟨w7.heap.size, 0, none⟩ = some (.int .i64 (n : Int)) := cell_of_heap hbx
          have u1 : w8.cell? ⟨w7.heap.size, 1, none⟩ = some (.int .i64 k1) := cell_of_heap hbx
          clear h8 hbx
          generalize txt n = s at *
          go_wp2_with fail
          refine (shapePI (Loc.rt.sep Loc.rt) H8.out (by have := HL.out; omega)).mono ?_
          rintro x w10 ⟨v1, rfl, h10, hb10, ho10⟩
          have N1 := hide h10
          have H10 := hide ho10.rot.rot
          obtain ⟨a1, c1, rfl, _⟩ := h10
          clear ho10 hb10
          go_wp2_with fail
          refine (shapePS (Loc.rt.sep Loc.rt) H10.out (by rw [map_len]; have := HL.out; omega)).mono ?_
          rintro x w11 ⟨v2, rfl, h11, hb11, ho11⟩
          rw [HSA.out] at h11
          have HS := hide (sameNodes w11 _ _ (shp L) (N1.out.below hb11) h11 (by rw [HLE.out]; have := HL.out; omega))
          have H11 := hide ho11
          obtain ⟨a2, c2, rfl, _⟩ := h11
          clear ho11 hb11
          go_wp2_with fail
          refine HS.out.mono ?_
          rintro x w12 ⟨rfl, h12⟩
          have H12 := hide (H11.out.below (Loc.rt.sep (Loc.rt.sep Loc.rt)) (h12.below _))
          clear h12 HS
          go_wp2_with fail
          refine (shapePS (Loc.rt.sep Loc.rt) H12.out (by rw [map_len]; have := HL.out; omega)).mono ?_
          rintro x w13 ⟨v3, rfl, h13, hb13, ho13⟩
          rw [HSA.out] at h13
          have N2 := hide h13
          have H13 := hide ho13.rot.rot
          obtain ⟨a3, c3, rfl, _⟩ := h13
          clear ho13 hb13
          go_wp2_with fail
          refine (shapePR (Loc.rt.sep Loc.rt) H13.out (by rw [map_len]; have := HL.out; omega)).mono ?_
          rintro x w14 ⟨v4, rfl, h14, hb14, ho14⟩
          rw [HSC.out] at h14
          have HS := hide (sameNodes w14 _ _ (shp L) (N2.out.below hb14) h14 (by rw [HLE.out]; have := HL.out; omega))
          have H14 := hide ho14
          obtain ⟨a4, c4, rfl, _⟩ := h14
          clear ho14 hb14
          go_wp2_with fail
          refine HS.out.mono ?_
          rintro x w15 ⟨rfl, h15⟩
          have H15 := hide (H14.out.below (Loc.rt.sep (Loc.rt.sep Loc.rt)) (h15.below _)).rot.rot
          clear h15 HS
          go_wp2_with fail
          refine (keysPI (Loc.rt.sep Loc.rt) H15.out (by have := HL.out; omega)).mono ?_
          rintro x w16 ⟨v5, rfl, h16, hb16, ho16⟩
          have N3 := hide h16
          have H16 := hide ho16.rot
          obtain ⟨a5, c5, rfl, _⟩ := h16
          clear ho16 hb16
          go_wp2_with fail
          refine (keysPR (Loc.rt.sep Loc.rt) H16.out (by rw [map_len]; have := HL.out; omega)).mono ?_
          rintro x w17 ⟨v6, rfl, h17, hb17, ho17⟩
          rw [map_keys] at h17
          have HS := hide (sameInts w17 _ _ (L.map (·.1)) (N3.out.below hb17) h17 (by rw [List.length_map]; have := HL.out; omega))
          have H17 := hide ho17.rot
          obtain ⟨a6, c6, rfl, _⟩ := h17
          simp only [List.length_map] at HS
          clear ho17 hb17
          go_wp2_with fail
          refine HS.out.mono ?_
          rintro x w18 ⟨rfl, h18⟩
          have H18 := hide (H17.out.below (Loc.rt.sep (Loc.rt.sep Loc.rt)) (h18.below _))
          have HLB := hide (lenPS (Loc.rt.sep Loc.rt) H18.out)
          rw [map_len] at HLB
          clear h18 HS
          go_wp2_with fail
          refine HLB.out.mono ?_
          rintro x w19 ⟨rfl, rfl⟩
          have H19 := hide H18.out.rot
          go_wp2_with fail
          refine (keysPI (Loc.rt.sep Loc.rt) H19.out (by have := HL.out; omega)).mono ?_
          rintro x w20 ⟨v7, rfl, h20, hb20, ho20⟩
          have H20 := hide ho20
          obtain ⟨a7, c7, rfl, _⟩ := h20
          rw [List.length_map]
          clear ho20 hb20
          go_wp2_with fail
          refine (awakeT _).mono ?_
          rintro x w21 ⟨rfl, h21⟩
          have H21 := hide (H20.out.below (Loc.rt.sep (Loc.rt.sep Loc.rt)) h21)
          clear h21
          go_wp2
          go_ret
          exact ⟨rfl, H21.out.back⟩)

set_option maxRecDepth 100000 in
theorem lifted (os : Os) (started : os.Started) (H : Type) (enc : TypeId × Value → H) :
    ReturnsInHanded {} Try.checked os 8 .any (Rows.treapAnySpec.pre6 enc Try.prog Try.f8 Rows.treapAnyRow.domain false) (Rows.treapAnySpec.post enc Try.prog Try.f8 false true false false) := by
  refine returnsInHanded_of_change (C := Try.checked) own started (by kernel_rfl) Try.func8
    (ChangeSpec.witness6 (enc := enc) (C := Try.checked) false ⟨#[], #[.slice none 0 0, .int .i64 0], []⟩ 8 (by kernel_rfl) (by kernel_rfl) (by kernel_rfl) (by kernel_rfl)) ?_
  intro W base args ds gs before hval0 hW _ _
  have hval : ∀ (j : Nat) t v, Try.f8.params[j]? = some t → args[j]? = some v → Value.okWide Try.prog W .any base t v := hval0
  have hW' := hW
  obtain ⟨p, q, hA0, hV, rfl, hfz, hnd⟩ := hW
  have hA : DataW.TrodAll enc Try.prog W 0 (fun _ => true) true Try.f8.params.toList args.toList ds p := hA0
  rw [Try.params8] at hA hval
  obtain ⟨v0, vs0, d0, ds0, p0, q0, hargs, rfl, rfl, h0, r0⟩ := trodAll_cons hA
  obtain ⟨v1, vs1, d1, ds1, p1, q1, rfl, rfl, rfl, h1, r1⟩ := trodAll_cons r0
  obtain ⟨rfl, rfl, rfl⟩ := trodAll_nil r1
  obtain rfl : args = #[v0, v1] := by cases args; simp_all
  obtain ⟨rfl, rfl⟩ := trodVars_none hV
  have h0k := h0
  have lt0 : ∀ x ∈ p0, x.block < W.heap.size := fun x hx => hW'.lt x (by simp [hx])
  obtain ⟨l0_0, l0_1, l0_2, rfl, f0_0, f0_1, f0_2⟩ := open_calls (hval 0 22 v0 rfl rfl) h0
  obtain ⟨a1, rfl, rfl, rfl, w1⟩ := open_int Try.underlying3 (hval 1 3 v1 rfl rfl) h1
  clear hA0 hval0
  have hx1 := i64_bd w1
  refine (walk l0_0 l0_1 l0_2 f0_0 f0_1 a1 hx1 W f0_2).mono fun e W' ⟨he, bel⟩ => ?_
  subst he
  exact ⟨_, rfl, _, _, _, [], _, [], hW', trodAll_mk1 (shut_bool Try.underlying4 _), (trodAll_cons_mk (Below.trod laidOut (by kernel_rfl) (of_decide_eq_true (by kernel_rfl)) h0k bel lt0) (trodAll_cons_mk (shut_int Try.underlying3 w1) trodAll_mk0)), rfl, bel.frame _, fun h => by cases h⟩

end Go.Proofs.Ytblodflboalbmaa.treapAny
namespace Go.Proofs.Ytblodflboalbmaa

theorem treapAny_holds : Rows.TreapAnySaid :=
  OpenClaim.holds_of_wide 8 Try.f8 rfl rfl rfl rfl rfl rfl rfl ⟨rfl, rfl, rfl, rfl, rfl⟩ rfl rfl rfl rfl rfl (by kernel_rfl) Try.func8 (by kernel_rfl)
    (of_decide_eq_true (by kernel_rfl)) (by unfold Func.isWrapper; first | (rw [if_pos (by decide +kernel)]; kernel_rfl) | (rw [if_neg (by decide +kernel)]; exact ⟨rfl, rfl⟩))
    (fun os started H enc _ => treapAny.lifted os started H enc)
end Go.Proofs.Ytblodflboalbmaa
