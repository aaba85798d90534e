/- In whatever order keys come, and others come and go between, the tree is the same: the law TreapOrder answers true at every input, and its arguments read behind the call as they read before. -/
import Derived.Test.YtblodflboalbmaaTreIp
import Derived.Test.YtblodflboalbmaaTreOpen
namespace Go.Proofs.Ytblodflboalbmaa.treapOrder
open Go.ChangeShapes Go.WideShapes Go.ChangeAt Go.RowKit

/-- The item of a key. -/
def item (f : Nat → Nat) (j : Nat) : It Int := ((j : Int), f j % 8, (j : Int))
def base (f : Nat → Nat) (n : Nat) : List (It Int) := (List.range n).map (item f)
theorem base_mem {f : Nat → Nat} {n : Nat} {i : It Int} : i ∈ base f n ↔ ∃ j, j < n ∧ i = item f j := by
  simp only [base, List.mem_map, List.mem_range]
  exact ⟨fun ⟨j, h, e⟩ => ⟨j, h, e.symm⟩, fun ⟨j, h, e⟩ => ⟨j, h, e.symm⟩⟩
theorem base_rising (f : Nat → Nat) (n : Nat) : Rising (base f n) := by
  unfold Rising base
  rw [List.pairwise_map]
  refine List.Pairwise.imp ?_ (List.pairwise_lt_range (n := n))
  intro a b h
  simp only [item]; omega
theorem base_length (f : Nat → Nat) (n : Nat) : (base f n).length = n := by simp [base]
theorem base_none (f : Nat → Nat) (k : Nat) : getL (k : Int) (base f k) = none := getL_none_of fun i hi => by
  obtain ⟨j, hj, rfl⟩ := base_mem.1 hi
  simp only [item]; omega
theorem base_put (f : Nat → Nat) (k : Nat) : putL (k : Int) (f k % 8) (k : Int) (base f k) = base f (k + 1) := by
  refine rising_ext (putL_rising (base_rising f k)) (base_rising f _) fun i => ?_
  rw [putL_mem, base_mem, base_mem]
  constructor
  · rintro (⟨j, hj, rfl⟩ | ⟨_, rfl⟩)
    · exact ⟨j, by omega, rfl⟩
    · exact ⟨k, by omega, rfl⟩
  · rintro ⟨j, hj, rfl⟩
    by_cases h : j = k
    · subst h; exact .inr ⟨base_none f j, rfl⟩
    · exact .inl ⟨j, by omega, rfl⟩
/-- Whatever is below n is as it should be. -/
def Good (f : Nat → Nat) (n : Nat) (L : List (It Int)) : Prop := ∀ i ∈ L, 0 ≤ i.1 ∧ i.1 < 80 ∧ (i.1 < n → i = item f i.1.toNat)
theorem good_put {f : Nat → Nat} {n k d : Nat} {L : List (It Int)} (h : Good f n L) (hk : k < 80) (hd : k < n → d = f k % 8) : Good f n (putL (k : Int) d (k : Int) L) := by
  intro i hi
  rcases putL_mem.1 hi with hi | ⟨_, rfl⟩
  · exact h i hi
  · refine ⟨by simp, by simp; omega, fun q => ?_⟩
    simp only [item, Int.toNat_natCast]
    rw [hd (by simpa using q)]
theorem there_put {f : Nat → Nat} {n j : Nat} {L : List (It Int)} (h : Good f n L) (hj : j < n) : item f j ∈ putL (j : Int) (f j % 8) (j : Int) L := by
  cases hg : getL (j : Int) L with
  | none => exact putL_mem.2 (.inr ⟨hg, rfl⟩)
  | some i =>
    rw [putL_yes hg]
    obtain ⟨h1, h2⟩ := getL_spec hg
    have := (h i h1).2.2 (by omega)
    rw [h2, Int.toNat_natCast] at this
    rw [← this]; exact h1
theorem there_keep {f : Nat → Nat} {j k d : Nat} {v : Int} {L : List (It Int)} (h : item f j ∈ L) : item f j ∈ putL (k : Int) d v L := putL_mem.2 (.inl h)
theorem last_is {f : Nat → Nat} {n : Nat} {L : List (It Int)} (hr : Rising L) (h : Good f n L) (h1 : ∀ i ∈ L, i.1 < n ∨ 80 ≤ i.1) (h2 : ∀ j, j < n → item f j ∈ L) : L = base f n := by
  refine rising_ext hr (base_rising f n) fun i => ?_
  rw [base_mem]
  constructor
  · intro hi
    have q := h i hi
    have hlt : i.1 < n := by rcases h1 i hi with e | e; exact e; omega
    exact ⟨i.1.toNat, by omega, q.2.2 hlt⟩
  · rintro ⟨j, hj, rfl⟩; exact h2 j hj

set_option maxHeartbeats 4000000 in
set_option maxRecDepth 100000 in
theorem walk (ao : Option Addr) (len cap : Nat) (hlc : len ≤ cap) (hcm : cap ≤ maxLen) (ao2 : Option Addr) (len2 cap2 : Nat) (hlc2 : len2 ≤ cap2) (hcm2 : cap2 ≤ maxLen) (w : World)
    (hf : ∃ f : Nat → Nat, ∀ k, k < len → f k < 4294967296 ∧ At w ao k (.int .u32 (f k : Int))) (hg : ∃ f : Nat → Nat, ∀ k, k < len2 → f k < 256 ∧ At w ao2 k (.int .u8 (f k : Int))) :
    Calls Try.prog 4 #[.slice ao len cap, .slice ao2 len2 cap2] w fun e w' => e = .returned (.bool true) ∧ Below w.heap.size w w' := by
  obtain ⟨f, hf⟩ := hf
  obtain ⟨f2, hg⟩ := hg
  have HF := hide hf
  have HG := hide hg
  have hlen : len ≤ 9223372036854775807 := by unfold maxLen at hcm; omega
  have hlen2 : len2 ≤ 9223372036854775807 := by unfold maxLen at hcm2; omega
  clear hf hcm hlc hg hcm2 hlc2
  obtain ⟨n, hn⟩ : ∃ n, min len 60 = n := ⟨_, rfl⟩
  have hmin : min (len : Int) 60 = (n : Int) := by omega
  have hn1 : n ≤ len := by omega
  have hn2 : n ≤ 60 := by omega
  clear hn
  go_enter Try.func4, Try.ntmps4
  go_wp2_with fail
  refine (newPI Loc.nought (Own.start w)).mono ?_
  rintro x w1 ⟨rfl, h1⟩
  have H1 := hide h1
  clear h1
  go_wp2_with fail
  refine (newPI (Loc.rt.sep Loc.nought) H1.out).mono ?_
  rintro x w2 ⟨rfl, h2⟩
  have H2 := hide h2
  clear h2 H1
  go_wp2
  · obtain rfl : n = 60 := by omega
    clear hmin
    go_loopw [8] (fun i wr => ∃ k : Nat, k ≤ 60 ∧ i = .int .i64 (k : Int) ∧ Hid (Own (Sep (RTI w.heap.size (base f k)) (Sep Nought (RTI w1.heap.size []))) w wr)) (fun i _ => 60 - (intOf i).toNat)
    case atStart => exact ⟨0, Nat.zero_le _, rfl, H2.out.rot⟩
    case round =>
      clear H2
      obtain ⟨k, hk, rfl, hh⟩ := hrel
      by_cases hlt : k < 60
      · obtain ⟨b, o, rfl, hc⟩ := ((HF.out k (by omega)).2).below hh.out.back
        have hf32 := (HF.out k (by omega)).1
        have HP := hide (putPI (Loc.nought.sep Loc.rt) hh.out (k : Int) (f k % 8) (k : Int) (by rw [base_length]; omega))
        rw [base_none, base_put, show ((f k % 8 : Nat) : Int) = (f k : Int) % 8 by omega] at HP
        generalize f k = y at hc HP hf32
        clear hh
        go_wp2_with fail
        refine HP.out.mono ?_
        rintro x w3 ⟨rfl, h3⟩
        have H3 := hide h3
        clear h3
        go_wp2
        go_roundw
        case rel => exact ⟨k + 1, by omega, by go_num, H3⟩
        case measure => simp [intOf]; omega
      · have hke : k = 60 := by omega
        rw [hke] at hh
        have H3 := hide hh.out.rot.rot
        clear hh hke
        go_wp2
        go_loopw [9] (fun i wr => ∃ k : Nat, k ≤ 100 ∧ i = .int .i64 (k : Int) ∧ Hid (∃ L, L.length ≤ k ∧ Good f 60 L ∧ Own (Sep (RTI w1.heap.size L) (Sep (RTI w.heap.size (base f 60)) Nought)) w wr)) (fun i _ => 100 - (intOf i).toNat)
        case atStart => exact ⟨0, Nat.zero_le _, rfl, ⟨[], Nat.le_refl _, (by unfold Good; simp), H3.out⟩⟩
        case round =>
          clear H3 hlt hk
          obtain ⟨k, hk, rfl, hh⟩ := hrel
          obtain ⟨L, hL, hgo, ho⟩ := hh.out
          by_cases hlt : k < len2 ∧ k < 100
          · obtain ⟨hl1, hl2⟩ := hlt
            obtain ⟨b2, o2, rfl, hc2⟩ := ((HG.out k hl1).2).below ho.back
            have hg8 := (HG.out k hl1).1
            obtain ⟨y, hy⟩ : ∃ y, f2 k % 80 = y := ⟨_, rfl⟩
            have hy80 : y < 80 := by omega
            have hyr : ((f2 k : Int)) % 80 = (y : Int) := by omega
            by_cases hyn : y < 60
            · obtain ⟨b, o, rfl, hc⟩ := ((HF.out y (by omega)).2).below ho.back
              have hf32 := (HF.out y (by omega)).1
              have HP := hide (putPI (Loc.rt.sep Loc.nought) ho (y : Int) (f y % 8) (y : Int) (by omega))
              rw [show ((f y % 8 : Nat) : Int) = (f y : Int) % 8 by omega] at HP
              have HGO := hide (good_put (d := f y % 8) hgo hy80 (fun _ => rfl))
              have HL := hide hL
              generalize f2 k = z at *
              generalize f y = z2 at *
              clear hh ho hgo hL hy
              go_wp2_with fail
              refine HP.out.mono ?_
              rintro x w4 ⟨rfl, h4⟩
              have H4 := hide h4
              clear h4
              go_wp2
              go_roundw
              case rel => exact ⟨k + 1, by omega, by go_num, ⟨_, Nat.le_trans putL_le (by have := HL.out; omega), HGO.out, H4.out⟩⟩
              case measure => simp [intOf]; omega
            · have HP := hide (putPI (Loc.rt.sep Loc.nought) ho (y : Int) k (y : Int) (by omega))
              have HGO := hide (good_put (d := k) hgo hy80 (fun q => absurd q hyn))
              have HL := hide hL
              generalize f2 k = z at *
              clear hh ho hgo hL hy
              go_wp2_with fail
              refine HP.out.mono ?_
              rintro x w4 ⟨rfl, h4⟩
              have H4 := hide h4
              clear h4
              go_wp2
              go_roundw
              case rel => exact ⟨k + 1, by omega, by go_num, ⟨_, Nat.le_trans putL_le (by have := HL.out; omega), HGO.out, H4.out⟩⟩
              case measure => simp [intOf]; omega
          · have hx : ¬ k < len2 ∨ (k < len2 ∧ ¬ k < 100) := by omega
            have hL' : L.length ≤ 100 := by omega
            have HGO := hide hgo
            have HO := hide ho
            clear hlt hh hgo ho hL HG
            rcases hx with hx | ⟨hx, hx2⟩ <;> (
              go_wp2
              go_loopw [11] (fun i wr => ∃ y : Int, -1 ≤ y ∧ y < (60 : Int) ∧ i = .int .i64 y ∧ Hid (∃ L, L.length ≤ 99 + 60 - y ∧ Good f 60 L ∧ (∀ j : Nat, y < j → j < 60 → item f j ∈ L) ∧ Own (Sep (RTI w1.heap.size L) (Sep (RTI w.heap.size (base f 60)) Nought)) w wr)) (fun i _ => (intOf i + 1).toNat)
              case atStart => exact ⟨(60 : Int) - 1, by omega, by omega, by first | rfl | (congr 1), ⟨L, by omega, HGO.out, fun j h1 h2 => by omega, HO.out⟩⟩
              case round =>
                clear HGO HO hL'
                obtain ⟨y, hy1, hy2, rfl, hh⟩ := hrel
                obtain ⟨L, hL, hgo, hth, ho⟩ := hh.out
                by_cases hy : 0 ≤ y
                · obtain ⟨j, rfl⟩ : ∃ j : Nat, y = (j : Int) := ⟨y.toNat, by omega⟩
                  have hjn : j < 60 := by omega
                  obtain ⟨b, o, rfl, hc⟩ := ((HF.out j (by omega)).2).below ho.back
                  have hf32 := (HF.out j (by omega)).1
                  have HP := hide (putPI (Loc.rt.sep Loc.nought) ho (j : Int) (f j % 8) (j : Int) (by omega))
                  rw [show ((f j % 8 : Nat) : Int) = (f j : Int) % 8 by omega] at HP
                  have HGO := hide (good_put (d := f j % 8) hgo (by omega) (fun _ => rfl))
                  have HTH : Hid (∀ i : Nat, (j : Int) - 1 < i → i < 60 → item f i ∈ putL (j : Int) (f j % 8) (j : Int) L) := hide (fun i h1 h2 => by
                    by_cases q : i = j
                    · subst q; exact there_put hgo h2
                    · exact there_keep (hth i (by omega) h2))
                  have HL := hide hL
                  generalize f j = z at *
                  clear hh ho hgo hL hth
                  go_wp2_with fail
                  refine HP.out.mono ?_
                  rintro x w5 ⟨rfl, h5⟩
                  have H5 := hide h5
                  clear h5
                  go_wp2
                  go_roundw
                  case rel => exact ⟨(j : Int) - 1, by omega, by omega, by first | rfl | go_num, ⟨_, by have := putL_le (key := (j : Int)) (d := z % 8) (v := (j : Int)) (L := L); have := HL.out; omega, HGO.out, HTH.out, H5.out⟩⟩
                  case measure => simp [intOf]
                · have hLm : L.length ≤ 200 := by omega
                  have HGO := hide hgo
                  have HTH : Hid (∀ j : Nat, j < 60 → item f j ∈ L) := hide (fun j hj => hth j (by omega) hj)
                  have HO := hide ho
                  clear hh hgo ho hth hL
                  go_wp2
                  go_loopw [12] (fun i wr => ∃ k : Nat, 60 ≤ k ∧ k ≤ 80 ∧ i = .int .i64 (k : Int) ∧ Hid (∃ L, L.length ≤ 200 ∧ Good f 60 L ∧ (∀ j : Nat, j < 60 → item f j ∈ L) ∧ (∀ i ∈ L, i.1 < (60 : Int) ∨ (k : Int) ≤ i.1) ∧ Own (Sep (RTI w1.heap.size L) (Sep (RTI w.heap.size (base f 60)) Nought)) w wr)) (fun i _ => 80 - (intOf i).toNat)
                  case atStart => exact ⟨60, Nat.le_refl _, by omega, rfl, ⟨L, hLm, HGO.out, HTH.out, fun i _ => by omega, HO.out⟩⟩
                  case round =>
                    clear HGO HTH HO hLm
                    obtain ⟨k, hk1, hk2, rfl, hh⟩ := hrel
                    obtain ⟨L, hL, hgo, hth, hup, ho⟩ := hh.out
                    by_cases hlt : k < 80
                    · have main : ∃ L1 : List (It Int), L1.length ≤ 200 ∧ Good f 60 L1 ∧ (∀ j : Nat, j < 60 → item f j ∈ L1) ∧ (∀ i ∈ L1, i.1 < (60 : Int) ∨ ((k + 1 : Nat) : Int) ≤ i.1) ∧ Calls Try.prog 21 #[.pointer (some ⟨w1.heap.size, 0, none⟩), .int .i64 (k : Int)] wr fun x w' => (∃ u, x = .returned u) ∧ Own (Sep (RTI w1.heap.size L1) (Sep (RTI w.heap.size (base f 60)) Nought)) w w' := by
                        cases hg : getL (k : Int) L with
                        | none => exact ⟨L, hL, hgo, hth, fun i hi => by have q1 := hup i hi; have q2 := getL_none hg i hi; omega, (dropNoPI (Loc.rt.sep Loc.nought) ho (k : Int) hg).mono fun _ _ ⟨q1, q2⟩ => ⟨⟨_, q1⟩, q2⟩⟩
                        | some i0 => exact ⟨delL (k : Int) L, Nat.le_trans delL_le hL, fun i hi => hgo i (delL_sub hi), fun j hj => delL_mem.2 ⟨hth j hj, by simp only [item]; omega⟩, fun i hi => by have q := delL_mem.1 hi; have q1 := hup i q.1; omega, (dropYesPI (Loc.rt.sep Loc.nought) ho (k : Int) i0.1 i0.2.1 i0.2.2 hg (by omega)).mono fun _ _ ⟨q1, q2⟩ => ⟨⟨_, q1⟩, q2⟩⟩
                      obtain ⟨L1, hL1, hgo1, hth1, hup1, hD⟩ := main
                      have HD := hide hD
                      have HX := hide (show L1.length ≤ 200 ∧ Good f 60 L1 ∧ (∀ j : Nat, j < 60 → item f j ∈ L1) ∧ (∀ i ∈ L1, i.1 < (60 : Int) ∨ ((k + 1 : Nat) : Int) ≤ i.1) from ⟨hL1, hgo1, hth1, hup1⟩)
                      clear hh ho hgo hth hup hL hL1 hgo1 hth1 hup1 hD
                      go_wp2_with fail
                      refine HD.out.mono ?_
                      rintro x w6 ⟨⟨u, rfl⟩, h6⟩
                      have H6 := hide h6
                      clear h6
                      go_wp2
                      go_roundw
                      case rel => exact ⟨k + 1, by omega, by omega, by go_num, ⟨L1, HX.out.1, HX.out.2.1, HX.out.2.2.1, HX.out.2.2.2, H6.out⟩⟩
                      case measure => simp [intOf]; omega
                    · have hk80 : k = 80 := by omega
                      have e := last_is ho.ris hgo (fun i hi => by have := hup i hi; rw [hk80] at this; exact this) hth
                      rw [e] at ho
                      have HO := hide ho
                      have HO2 := hide ho.rot
                      have HLA := hide (lenPI (Loc.nought.sep Loc.rt) ho.rot)
                      have HLB := hide (lenPI (Loc.rt.sep Loc.nought) ho)
                      rw [base_length] at HLA HLB
                      clear hh hgo hth hup hL ho e hk80
                      go_wp2_with fail
                      refine HLA.out.mono ?_
                      rintro x w7 ⟨rfl, rfl⟩
                      go_wp2_with fail
                      refine HLB.out.mono ?_
                      rintro x w8 ⟨rfl, rfl⟩
                      go_wp2_with fail
                      refine (shapePI (Loc.nought.sep Loc.rt) HO2.out (by rw [base_length]; omega)).mono ?_
                      rintro x w9 ⟨v1, rfl, h9, hb9, ho9⟩
                      have H9 := hide h9
                      have HO9 := hide ho9.rot.rot
                      obtain ⟨a1, c1, rfl, _⟩ := h9
                      clear ho9 hb9
                      go_wp2_with fail
                      refine (shapePI (Loc.rt.sep Loc.nought) HO9.out (by rw [base_length]; omega)).mono ?_
                      rintro x w10 ⟨v2, rfl, h10, hb10, ho10⟩
                      have HS := hide (sameNodes w10 _ _ (shp (base f 60)) (H9.out.below hb10) h10 (by rw [shp_length (base_rising f _), base_length]; omega))
                      have HO10 := hide ho10
                      obtain ⟨a2, c2, rfl, _⟩ := h10
                      clear ho10 hb10
                      go_wp2_with fail
                      refine HS.out.mono ?_
                      rintro x w11 ⟨rfl, h11⟩
                      have H11 := hide (HO10.out.below (Loc.rt.sep (Loc.rt.sep Loc.nought)) (h11.below _))
                      clear h11
                      go_wp2_with fail
                      refine (awakeT _).mono ?_
                      rintro x w12 ⟨rfl, h12⟩
                      have H12 := hide (H11.out.below (Loc.rt.sep (Loc.rt.sep Loc.nought)) h12)
                      clear h12
                      go_wp2
                      go_ret
                      exact ⟨rfl, H12.out.back⟩)
  · obtain rfl : n = len := by omega
    clear hmin
    go_loopw [8] (fun i wr => ∃ k : Nat, k ≤ n ∧ i = .int .i64 (k : Int) ∧ Hid (Own (Sep (RTI w.heap.size (base f k)) (Sep Nought (RTI w1.heap.size []))) w wr)) (fun i _ => n - (intOf i).toNat)
    case atStart => exact ⟨0, Nat.zero_le _, rfl, H2.out.rot⟩
    case round =>
      clear H2
      obtain ⟨k, hk, rfl, hh⟩ := hrel
      by_cases hlt : k < n
      · obtain ⟨b, o, rfl, hc⟩ := ((HF.out k (by omega)).2).below hh.out.back
        have hf32 := (HF.out k (by omega)).1
        have HP := hide (putPI (Loc.nought.sep Loc.rt) hh.out (k : Int) (f k % 8) (k : Int) (by rw [base_length]; omega))
        rw [base_none, base_put, show ((f k % 8 : Nat) : Int) = (f k : Int) % 8 by omega] at HP
        generalize f k = y at hc HP hf32
        clear hh
        go_wp2_with fail
        refine HP.out.mono ?_
        rintro x w3 ⟨rfl, h3⟩
        have H3 := hide h3
        clear h3
        go_wp2
        go_roundw
        case rel => exact ⟨k + 1, by omega, by go_num, H3⟩
        case measure => simp [intOf]; omega
      · have hke : k = n := by omega
        rw [hke] at hh
        have H3 := hide hh.out.rot.rot
        clear hh hke
        go_wp2
        go_loopw [9] (fun i wr => ∃ k : Nat, k ≤ 100 ∧ i = .int .i64 (k : Int) ∧ Hid (∃ L, L.length ≤ k ∧ Good f n L ∧ Own (Sep (RTI w1.heap.size L) (Sep (RTI w.heap.size (base f n)) Nought)) w wr)) (fun i _ => 100 - (intOf i).toNat)
        case atStart => exact ⟨0, Nat.zero_le _, rfl, ⟨[], Nat.le_refl _, (by unfold Good; simp), H3.out⟩⟩
        case round =>
          clear H3 hlt hk
          obtain ⟨k, hk, rfl, hh⟩ := hrel
          obtain ⟨L, hL, hgo, ho⟩ := hh.out
          by_cases hlt : k < len2 ∧ k < 100
          · obtain ⟨hl1, hl2⟩ := hlt
            obtain ⟨b2, o2, rfl, hc2⟩ := ((HG.out k hl1).2).below ho.back
            have hg8 := (HG.out k hl1).1
            obtain ⟨y, hy⟩ : ∃ y, f2 k % 80 = y := ⟨_, rfl⟩
            have hy80 : y < 80 := by omega
            have hyr : ((f2 k : Int)) % 80 = (y : Int) := by omega
            by_cases hyn : y < n
            · obtain ⟨b, o, rfl, hc⟩ := ((HF.out y (by omega)).2).below ho.back
              have hf32 := (HF.out y (by omega)).1
              have HP := hide (putPI (Loc.rt.sep Loc.nought) ho (y : Int) (f y % 8) (y : Int) (by omega))
              rw [show ((f y % 8 : Nat) : Int) = (f y : Int) % 8 by omega] at HP
              have HGO := hide (good_put (d := f y % 8) hgo hy80 (fun _ => rfl))
              have HL := hide hL
              generalize f2 k = z at *
              generalize f y = z2 at *
              clear hh ho hgo hL hy
              go_wp2_with fail
              refine HP.out.mono ?_
              rintro x w4 ⟨rfl, h4⟩
              have H4 := hide h4
              clear h4
              go_wp2
              go_roundw
              case rel => exact ⟨k + 1, by omega, by go_num, ⟨_, Nat.le_trans putL_le (by have := HL.out; omega), HGO.out, H4.out⟩⟩
              case measure => simp [intOf]; omega
            · have HP := hide (putPI (Loc.rt.sep Loc.nought) ho (y : Int) k (y : Int) (by omega))
              have HGO := hide (good_put (d := k) hgo hy80 (fun q => absurd q hyn))
              have HL := hide hL
              generalize f2 k = z at *
              clear hh ho hgo hL hy
              go_wp2_with fail
              refine HP.out.mono ?_
              rintro x w4 ⟨rfl, h4⟩
              have H4 := hide h4
              clear h4
              go_wp2
              go_roundw
              case rel => exact ⟨k + 1, by omega, by go_num, ⟨_, Nat.le_trans putL_le (by have := HL.out; omega), HGO.out, H4.out⟩⟩
              case measure => simp [intOf]; omega
          · have hx : ¬ k < len2 ∨ (k < len2 ∧ ¬ k < 100) := by omega
            have hL' : L.length ≤ 100 := by omega
            have HGO := hide hgo
            have HO := hide ho
            clear hlt hh hgo ho hL HG
            rcases hx with hx | ⟨hx, hx2⟩ <;> (
              go_wp2
              go_loopw [11] (fun i wr => ∃ y : Int, -1 ≤ y ∧ y < (n : Int) ∧ i = .int .i64 y ∧ Hid (∃ L, L.length ≤ 99 + n - y ∧ Good f n L ∧ (∀ j : Nat, y < j → j < n → item f j ∈ L) ∧ Own (Sep (RTI w1.heap.size L) (Sep (RTI w.heap.size (base f n)) Nought)) w wr)) (fun i _ => (intOf i + 1).toNat)
              case atStart => exact ⟨(n : Int) - 1, by omega, by omega, by first | rfl | (congr 1), ⟨L, by omega, HGO.out, fun j h1 h2 => by omega, HO.out⟩⟩
              case round =>
                clear HGO HO hL'
                obtain ⟨y, hy1, hy2, rfl, hh⟩ := hrel
                obtain ⟨L, hL, hgo, hth, ho⟩ := hh.out
                by_cases hy : 0 ≤ y
                · obtain ⟨j, rfl⟩ : ∃ j : Nat, y = (j : Int) := ⟨y.toNat, by omega⟩
                  have hjn : j < n := by omega
                  obtain ⟨b, o, rfl, hc⟩ := ((HF.out j (by omega)).2).below ho.back
                  have hf32 := (HF.out j (by omega)).1
                  have HP := hide (putPI (Loc.rt.sep Loc.nought) ho (j : Int) (f j % 8) (j : Int) (by omega))
                  rw [show ((f j % 8 : Nat) : Int) = (f j : Int) % 8 by omega] at HP
                  have HGO := hide (good_put (d := f j % 8) hgo (by omega) (fun _ => rfl))
                  have HTH : Hid (∀ i : Nat, (j : Int) - 1 < i → i < n → item f i ∈ putL (j : Int) (f j % 8) (j : Int) L) := hide (fun i h1 h2 => by
                    by_cases q : i = j
                    · subst q; exact there_put hgo h2
                    · exact there_keep (hth i (by omega) h2))
                  have HL := hide hL
                  generalize f j = z at *
                  clear hh ho hgo hL hth
                  go_wp2_with fail
                  refine HP.out.mono ?_
                  rintro x w5 ⟨rfl, h5⟩
                  have H5 := hide h5
                  clear h5
                  go_wp2
                  go_roundw
                  case rel => exact ⟨(j : Int) - 1, by omega, by omega, by first | rfl | go_num, ⟨_, by have := putL_le (key := (j : Int)) (d := z % 8) (v := (j : Int)) (L := L); have := HL.out; omega, HGO.out, HTH.out, H5.out⟩⟩
                  case measure => simp [intOf]
                · have hLm : L.length ≤ 200 := by omega
                  have HGO := hide hgo
                  have HTH : Hid (∀ j : Nat, j < n → item f j ∈ L) := hide (fun j hj => hth j (by omega) hj)
                  have HO := hide ho
                  clear hh hgo ho hth hL
                  go_wp2
                  go_loopw [12] (fun i wr => ∃ k : Nat, n ≤ k ∧ k ≤ 80 ∧ i = .int .i64 (k : Int) ∧ Hid (∃ L, L.length ≤ 200 ∧ Good f n L ∧ (∀ j : Nat, j < n → item f j ∈ L) ∧ (∀ i ∈ L, i.1 < (n : Int) ∨ (k : Int) ≤ i.1) ∧ Own (Sep (RTI w1.heap.size L) (Sep (RTI w.heap.size (base f n)) Nought)) w wr)) (fun i _ => 80 - (intOf i).toNat)
                  case atStart => exact ⟨n, Nat.le_refl _, by omega, rfl, ⟨L, hLm, HGO.out, HTH.out, fun i _ => by omega, HO.out⟩⟩
                  case round =>
                    clear HGO HTH HO hLm
                    obtain ⟨k, hk1, hk2, rfl, hh⟩ := hrel
                    obtain ⟨L, hL, hgo, hth, hup, ho⟩ := hh.out
                    by_cases hlt : k < 80
                    · have main : ∃ L1 : List (It Int), L1.length ≤ 200 ∧ Good f n L1 ∧ (∀ j : Nat, j < n → item f j ∈ L1) ∧ (∀ i ∈ L1, i.1 < (n : Int) ∨ ((k + 1 : Nat) : Int) ≤ i.1) ∧ Calls Try.prog 21 #[.pointer (some ⟨w1.heap.size, 0, none⟩), .int .i64 (k : Int)] wr fun x w' => (∃ u, x = .returned u) ∧ Own (Sep (RTI w1.heap.size L1) (Sep (RTI w.heap.size (base f n)) Nought)) w w' := by
                        cases hg : getL (k : Int) L with
                        | none => exact ⟨L, hL, hgo, hth, fun i hi => by have q1 := hup i hi; have q2 := getL_none hg i hi; omega, (dropNoPI (Loc.rt.sep Loc.nought) ho (k : Int) hg).mono fun _ _ ⟨q1, q2⟩ => ⟨⟨_, q1⟩, q2⟩⟩
                        | some i0 => exact ⟨delL (k : Int) L, Nat.le_trans delL_le hL, fun i hi => hgo i (delL_sub hi), fun j hj => delL_mem.2 ⟨hth j hj, by simp only [item]; omega⟩, fun i hi => by have q := delL_mem.1 hi; have q1 := hup i q.1; omega, (dropYesPI (Loc.rt.sep Loc.nought) ho (k : Int) i0.1 i0.2.1 i0.2.2 hg (by omega)).mono fun _ _ ⟨q1, q2⟩ => ⟨⟨_, q1⟩, q2⟩⟩
                      obtain ⟨L1, hL1, hgo1, hth1, hup1, hD⟩ := main
                      have HD := hide hD
                      have HX := hide (show L1.length ≤ 200 ∧ Good f n L1 ∧ (∀ j : Nat, j < n → item f j ∈ L1) ∧ (∀ i ∈ L1, i.1 < (n : Int) ∨ ((k + 1 : Nat) : Int) ≤ i.1) from ⟨hL1, hgo1, hth1, hup1⟩)
                      clear hh ho hgo hth hup hL hL1 hgo1 hth1 hup1 hD
                      go_wp2_with fail
                      refine HD.out.mono ?_
                      rintro x w6 ⟨⟨u, rfl⟩, h6⟩
                      have H6 := hide h6
                      clear h6
                      go_wp2
                      go_roundw
                      case rel => exact ⟨k + 1, by omega, by omega, by go_num, ⟨L1, HX.out.1, HX.out.2.1, HX.out.2.2.1, HX.out.2.2.2, H6.out⟩⟩
                      case measure => simp [intOf]; omega
                    · have hk80 : k = 80 := by omega
                      have e := last_is ho.ris hgo (fun i hi => by have := hup i hi; rw [hk80] at this; exact this) hth
                      rw [e] at ho
                      have HO := hide ho
                      have HO2 := hide ho.rot
                      have HLA := hide (lenPI (Loc.nought.sep Loc.rt) ho.rot)
                      have HLB := hide (lenPI (Loc.rt.sep Loc.nought) ho)
                      rw [base_length] at HLA HLB
                      clear hh hgo hth hup hL ho e hk80
                      go_wp2_with fail
                      refine HLA.out.mono ?_
                      rintro x w7 ⟨rfl, rfl⟩
                      go_wp2_with fail
                      refine HLB.out.mono ?_
                      rintro x w8 ⟨rfl, rfl⟩
                      go_wp2_with fail
                      refine (shapePI (Loc.nought.sep Loc.rt) HO2.out (by rw [base_length]; omega)).mono ?_
                      rintro x w9 ⟨v1, rfl, h9, hb9, ho9⟩
                      have H9 := hide h9
                      have HO9 := hide ho9.rot.rot
                      obtain ⟨a1, c1, rfl, _⟩ := h9
                      clear ho9 hb9
                      go_wp2_with fail
                      refine (shapePI (Loc.rt.sep Loc.nought) HO9.out (by rw [base_length]; omega)).mono ?_
                      rintro x w10 ⟨v2, rfl, h10, hb10, ho10⟩
                      have HS := hide (sameNodes w10 _ _ (shp (base f n)) (H9.out.below hb10) h10 (by rw [shp_length (base_rising f _), base_length]; omega))
                      have HO10 := hide ho10
                      obtain ⟨a2, c2, rfl, _⟩ := h10
                      clear ho10 hb10
                      go_wp2_with fail
                      refine HS.out.mono ?_
                      rintro x w11 ⟨rfl, h11⟩
                      have H11 := hide (HO10.out.below (Loc.rt.sep (Loc.rt.sep Loc.nought)) (h11.below _))
                      clear h11
                      go_wp2_with fail
                      refine (awakeT _).mono ?_
                      rintro x w12 ⟨rfl, h12⟩
                      have H12 := hide (H11.out.below (Loc.rt.sep (Loc.rt.sep Loc.nought)) h12)
                      clear h12
                      go_wp2
                      go_ret
                      exact ⟨rfl, H12.out.back⟩)

set_option maxRecDepth 100000 in
theorem lifted (os : Os) (started : os.Started) (H : Type) (enc : TypeId × Value → H) :
    ReturnsInHanded {} Try.checked os 4 .any (Rows.treapOrderSpec.pre6 enc Try.prog Try.f4 Rows.treapOrderRow.domain false) (Rows.treapOrderSpec.post enc Try.prog Try.f4 false true false false) := by
  refine returnsInHanded_of_change (C := Try.checked) own started (by kernel_rfl) Try.func4
    (ChangeSpec.witness6 (enc := enc) (C := Try.checked) false ⟨#[], #[.slice none 0 0, .slice none 0 0], []⟩ 8 (by kernel_rfl) (by kernel_rfl) (by kernel_rfl) (by kernel_rfl)) ?_
  intro W base args ds gs before hval0 hW _ _
  have hval : ∀ (j : Nat) t v, Try.f4.params[j]? = some t → args[j]? = some v → Value.okWide Try.prog W .any base t v := hval0
  have hW' := hW
  obtain ⟨p, q, hA0, hV, rfl, hfz, hnd⟩ := hW
  have hA : DataW.TrodAll enc Try.prog W 0 (fun _ => true) true Try.f4.params.toList args.toList ds p := hA0
  rw [Try.params4] at hA hval
  obtain ⟨v0, vs0, d0, ds0, p0, q0, hargs, rfl, rfl, h0, r0⟩ := trodAll_cons hA
  obtain ⟨v1, vs1, d1, ds1, p1, q1, rfl, rfl, rfl, h1, r1⟩ := trodAll_cons r0
  obtain ⟨rfl, rfl, rfl⟩ := trodAll_nil r1
  obtain rfl : args = #[v0, v1] := by cases args; simp_all
  obtain ⟨rfl, rfl⟩ := trodVars_none hV
  have h0k := h0
  have lt0 : ∀ x ∈ p0, x.block < W.heap.size := fun x hx => hW'.lt x (by simp [hx])
  obtain ⟨l0_0, l0_1, l0_2, rfl, f0_0, f0_1, f0_2⟩ := open_draws (hval 0 42 v0 rfl rfl) h0
  have h1k := h1
  have lt1 : ∀ x ∈ p1, x.block < W.heap.size := fun x hx => hW'.lt x (by simp [hx])
  obtain ⟨l1_0, l1_1, l1_2, rfl, f1_0, f1_1, f1_2⟩ := open_bytes (hval 1 43 v1 rfl rfl) h1
  clear hA0 hval0
  refine (walk l0_0 l0_1 l0_2 f0_0 f0_1 l1_0 l1_1 l1_2 f1_0 f1_1 W f0_2 f1_2).mono fun e W' ⟨he, bel⟩ => ?_
  subst he
  exact ⟨_, rfl, _, _, _, [], _, [], hW', trodAll_mk1 (shut_bool Try.underlying4 _), (trodAll_cons_mk (Below.trod laidOut (by kernel_rfl) (of_decide_eq_true (by kernel_rfl)) h0k bel lt0) (trodAll_cons_mk (Below.trod laidOut (by kernel_rfl) (of_decide_eq_true (by kernel_rfl)) h1k bel lt1) trodAll_mk0)), rfl, bel.frame _, fun h => by cases h⟩

end Go.Proofs.Ytblodflboalbmaa.treapOrder
namespace Go.Proofs.Ytblodflboalbmaa

theorem treapOrder_holds : Rows.TreapOrderSaid :=
  OpenClaim.holds_of_wide 4 Try.f4 rfl rfl rfl rfl rfl rfl rfl ⟨rfl, rfl, rfl, rfl, rfl⟩ rfl rfl rfl rfl rfl (by kernel_rfl) Try.func4 (by kernel_rfl)
    (of_decide_eq_true (by kernel_rfl)) (by unfold Func.isWrapper; first | (rw [if_pos (by decide +kernel)]; kernel_rfl) | (rw [if_neg (by decide +kernel)]; exact ⟨rfl, rfl⟩))
    (fun os started H enc _ => treapOrder.lifted os started H enc)
end Go.Proofs.Ytblodflboalbmaa
