/- No access turns another word, nor another store; what is told is new memory: the law StoreApart answers true at every input, and its arguments read behind the call as they read before. No condition. -/
import Derived.Test.YtlanfpefifegpaaStoreNear
namespace Go.Proofs.Ytlanfpefifegpaa.storeApart
open Go.ChangeShapes Go.WideShapes Go.ChangeAt Go.RowKit

set_option maxRecDepth 100000 in
set_option maxHeartbeats 1000000 in
theorem walk (ao : Option Addr) (len cap : Nat) (_hlen : len ≤ cap) (hcap0 : cap ≤ maxLen) (w : World) (hops : OpsIn w ao len) :
    Calls Try.prog 6 #[.slice ao len cap] w fun e w' => e = .returned (.bool true) ∧ Below w.heap.size w w' := by
  have hcap : cap ≤ 9223372036854775807 := hcap0
  have HO := hide hops
  clear hops
  go_enter Try.func6, Try.ntmps6
  go_wp2_with fail
  refine (new20 _).mono ?_
  rintro e w1 ⟨p, b, rfl, hS, hp, hb, hb1⟩
  have L1 := lt_of_heap hS.head
  have L2 := lt_of_heap hS.row
  have HS := hide hS
  have H1 := hide hb1
  clear hS hb1
  go_wp2_with fail
  refine (new20 _).mono ?_
  rintro e w2 ⟨q, c, rfl, hR, hq, hc, hb2⟩
  have HB := hide (HS.out.below hb2)
  have HR := hide hR
  have H2 : Hid (Below w.heap.size w w2) := H1.out.trans (hb2.mono H1.out.size)
  have hws : w.heap.size ≤ w1.heap.size := H1.out.size
  have hne1 : p ≠ q := by omega
  have hne2 : p ≠ c := by omega
  have hne3 : b ≠ q := by omega
  have hne4 : b ≠ c := by omega
  have hq0 : w.heap.size ≤ q := by omega
  have hc0 : w.heap.size ≤ c := by omega
  clear HS H1 hR hb2 hq hc L1 L2
  go_wp2_with fail
  go_loopw [5] (fun i wr => ∃ (k : Nat) (s : St), k ≤ len ∧ i = .int .i64 k ∧ StoreAt 53 wr p b s ∧ s.words.length = 20 ∧ StoreAt 53 wr q c (St.zero 20) ∧ Below w.heap.size w wr) (fun i _ => len - (intOf i).toNat)
  case atStart => exact ⟨0, _, by omega, rfl, HB.out, rfl, HR.out, H2.out⟩
  case round =>
    obtain ⟨k, s, hk, rfl, hB, hsl, hR, hbel⟩ := hrel
    clear HB HR H2
    have Hs := hide hB
    have Hr := hide hR
    have HBe := hide hbel
    have Hsl := hide hsl
    have lp := lt_of_heap hB.head
    have lb := lt_of_heap hB.row
    have lq := lt_of_heap hR.head
    have lc := lt_of_heap hR.row
    clear hB hR hbel hsl
    by_cases hlt : k < len ∧ k < 100
    · obtain ⟨hlt1, hlt2⟩ := hlt
      obtain ⟨ab, ab0, kind, t, v, old, rfl, hop⟩ := HO.out k hlt1
      have HOP := hide hop
      clear hop
      rcases (by omega : kind % 4 = 0 ∨ kind % 4 = 1 ∨ kind % 4 = 2 ∨ kind % 4 = 3) with h4 | h4 | h4 | h4
      · have hk4 : (kind : Int) % 4 = 0 := by omega
        go_wp2_with fail
        refine (words20 _ p b s Hs.out Hsl.out).mono ?_
        rintro e w1 ⟨gW, rfl, hW1, hgW, hb1⟩
        have K1 := hide hb1
        have KW := hide hW1
        have z1 : wr.heap.size ≤ w1.heap.size := hb1.size
        have hop1 := (HOP.out.kept HBe.out HOP.out.lt).kept hb1 (Nat.lt_of_lt_of_le HOP.out.lt HBe.out.size)
        have c0 := hop1.c0
        have c1 := hop1.c1
        have c2 := hop1.c2
        have c3 := hop1.c3
        have lW := lt_of_heap hW1.row
        have lA := hop1.lt
        clear hb1 hW1 hop1
        go_wp2_with fail
        refine (near_load _ p b s ((Hs.out.below K1.out).alloc _) t).mono ?_
        rintro e w3 ⟨rv, s3, rfl, hs3, hn3, ho3⟩
        clear c0 c1 c2 c3
        have z3 : w1.heap.size + 1 ≤ w3.heap.size := by have := ho3.size; simpa using this
        have hB3 := hide ((show Boxed w1.heap.size kind t v old (w1.alloc (.cells #[.int .u8 (kind : Int), .int .i64 t, .int .u64 (v : Int), .int .u64 (old : Int)] 30)) from heap_alloc_at w1 _).kept ho3 (by omega))
        have hW3 := hide ((show WordsAt (w1.alloc (.cells #[.int .u8 (kind : Int), .int .i64 t, .int .u64 (v : Int), .int .u64 (old : Int)] 30)) gW s.words from ⟨heap_alloc_old KW.out.row⟩).kept ho3 (by omega))
        have hR3 := hide (((Hr.out.below K1.out).alloc (.cells #[.int .u8 (kind : Int), .int .i64 t, .int .u64 (v : Int), .int .u64 (old : Int)] 30)).kept ho3 (by omega) (by omega))
        have hE3 := hide (below_only ((HBe.out.trans (K1.out.mono HBe.out.size)).alloc (Nat.le_trans HBe.out.size z1) (.cells #[.int .u8 (kind : Int), .int .i64 t, .int .u64 (v : Int), .int .u64 (old : Int)] 30)) (Nat.le_refl _) hp hb ho3)
        have HN := hide hn3
        have Hl3 := hide (hn3.1.trans Hsl.out)
        have K3 := hide hs3
        clear hs3 hn3 ho3
        go_wp2_with fail
        refine (words20 _ p b s3 K3.out Hl3.out).mono ?_
        rintro e w4 ⟨gN, rfl, hW4, hgN, hb4⟩
        have d1 : w4.cell? ⟨w1.heap.size, 1, none⟩ = some (.int .i64 t) := (hb4.cell (p := ⟨w1.heap.size, 1, none⟩) (lt_of_heap hB3.out)).trans (cell_of_heap hB3.out)
        have KWs := hide (hW3.out.below hb4)
        have KN := hide hW4
        have K4 := hide hb4
        have z4 : w3.heap.size ≤ w4.heap.size := hb4.size
        clear hb4 hW4
        go_wp2_with fail
        go_loopw [9] (fun kk wx => ∃ j nq : Nat, j ≤ 20 ∧ kk = .int .i64 j ∧ wx = w4.drewN nq) (fun kk _ => 20 - (intOf kk).toNat)
        case atStart => exact ⟨0, 0, by omega, rfl, rfl⟩
        case round =>
          obtain ⟨j, nq, hj, rfl, rfl⟩ := hrel
          by_cases hjl : j < 20
          · have l1 : j < s.words.length := by have := Hsl.out; omega
            have l2 : j < s3.words.length := by have := Hl3.out; omega
            have k1 := KWs.out.cell j l1
            have k2 := KN.out.cell j l2
            have hj20 : (j : Int) < 20 := by omega
            by_cases hjt : (j : Int) = t
            · have q : (!((j : Int) == t)) = false := by simp [hjt]
              go_wp2
              go_quiet (fail)
              go_wp2
              go_roundw
              case rel => exact ⟨j + 1, _, by omega, by go_num, rfl⟩
              case measure => simp [intOf]; omega
            · have q : (!((j : Int) == t)) = true := by simp [hjt]
              have e := HN.out.2 j hjt
              rw [e] at k2
              generalize s.words.getD j 0 = x at *
              clear e
              go_wp2
              go_quiet (fail)
              go_wp2
              go_roundw
              case rel => exact ⟨j + 1, _, by omega, by go_num, rfl⟩
              case measure => simp [intOf]; omega
          · have l3 : 0 < s3.words.length := by have := Hl3.out; omega
            have k0 := KN.out.cell 0 l3
            have hj20 : ¬ (j : Int) < 20 := by omega
            have fz : w4.frozen? ⟨gN, 0, none⟩ = false := frozen_of_heap KN.out.row
            obtain ⟨x0, hx0⟩ : ∃ x, s3.words.getD 0 0 = x := ⟨_, rfl⟩
            rw [hx0] at k0
            have HX := hide hx0
            clear hx0
            go_wp2_with fail
            refine (load_first _ p b s3 ((K3.out.below K4.out).at_set (by omega) (by omega)) l3).mono ?_
            rintro e w5 ⟨rfl, hs5, ho5⟩
            rw [HX.out]
            have K5 := hide ho5
            have H5 := hide hs5
            clear hs5 ho5 k0 fz
            go_wp2
            go_roundw
            case rel =>
              refine ⟨k + 1, s3.load 0, by omega, by go_num, H5.out, (access_len ..).trans Hl3.out, ?_, ?_⟩
              · exact ((hR3.out.below K4.out).at_set (by omega) (by omega)).kept K5.out (by omega) (by omega)
              · exact below_only (below_drewN ((hE3.out.trans (K4.out.mono hE3.out.size)).setCell (by show _ ≤ gN; omega) _) _) (Nat.le_refl _) hp hb K5.out
            case measure => simp [intOf]; omega
      · have hk4 : (kind : Int) % 4 = 1 := by omega
        go_wp2_with fail
        refine (words20 _ p b s Hs.out Hsl.out).mono ?_
        rintro e w1 ⟨gW, rfl, hW1, hgW, hb1⟩
        have K1 := hide hb1
        have KW := hide hW1
        have z1 : wr.heap.size ≤ w1.heap.size := hb1.size
        have hop1 := (HOP.out.kept HBe.out HOP.out.lt).kept hb1 (Nat.lt_of_lt_of_le HOP.out.lt HBe.out.size)
        have c0 := hop1.c0
        have c1 := hop1.c1
        have c2 := hop1.c2
        have c3 := hop1.c3
        have lW := lt_of_heap hW1.row
        have lA := hop1.lt
        clear hb1 hW1 hop1
        go_wp2_with fail
        refine (near_put _ p b s ((Hs.out.below K1.out).alloc _) t v HOP.out.hv).mono ?_
        rintro e w3 ⟨rv, s3, rfl, hs3, hn3, ho3⟩
        clear c0 c1 c2 c3
        have z3 : w1.heap.size + 1 ≤ w3.heap.size := by have := ho3.size; simpa using this
        have hB3 := hide ((show Boxed w1.heap.size kind t v old (w1.alloc (.cells #[.int .u8 (kind : Int), .int .i64 t, .int .u64 (v : Int), .int .u64 (old : Int)] 30)) from heap_alloc_at w1 _).kept ho3 (by omega))
        have hW3 := hide ((show WordsAt (w1.alloc (.cells #[.int .u8 (kind : Int), .int .i64 t, .int .u64 (v : Int), .int .u64 (old : Int)] 30)) gW s.words from ⟨heap_alloc_old KW.out.row⟩).kept ho3 (by omega))
        have hR3 := hide (((Hr.out.below K1.out).alloc (.cells #[.int .u8 (kind : Int), .int .i64 t, .int .u64 (v : Int), .int .u64 (old : Int)] 30)).kept ho3 (by omega) (by omega))
        have hE3 := hide (below_only ((HBe.out.trans (K1.out.mono HBe.out.size)).alloc (Nat.le_trans HBe.out.size z1) (.cells #[.int .u8 (kind : Int), .int .i64 t, .int .u64 (v : Int), .int .u64 (old : Int)] 30)) (Nat.le_refl _) hp hb ho3)
        have HN := hide hn3
        have Hl3 := hide (hn3.1.trans Hsl.out)
        have K3 := hide hs3
        clear hs3 hn3 ho3
        go_wp2_with fail
        refine (words20 _ p b s3 K3.out Hl3.out).mono ?_
        rintro e w4 ⟨gN, rfl, hW4, hgN, hb4⟩
        have d1 : w4.cell? ⟨w1.heap.size, 1, none⟩ = some (.int .i64 t) := (hb4.cell (p := ⟨w1.heap.size, 1, none⟩) (lt_of_heap hB3.out)).trans (cell_of_heap hB3.out)
        have KWs := hide (hW3.out.below hb4)
        have KN := hide hW4
        have K4 := hide hb4
        have z4 : w3.heap.size ≤ w4.heap.size := hb4.size
        clear hb4 hW4
        go_wp2_with fail
        go_loopw [9] (fun kk wx => ∃ j nq : Nat, j ≤ 20 ∧ kk = .int .i64 j ∧ wx = w4.drewN nq) (fun kk _ => 20 - (intOf kk).toNat)
        case atStart => exact ⟨0, 0, by omega, rfl, rfl⟩
        case round =>
          obtain ⟨j, nq, hj, rfl, rfl⟩ := hrel
          by_cases hjl : j < 20
          · have l1 : j < s.words.length := by have := Hsl.out; omega
            have l2 : j < s3.words.length := by have := Hl3.out; omega
            have k1 := KWs.out.cell j l1
            have k2 := KN.out.cell j l2
            have hj20 : (j : Int) < 20 := by omega
            by_cases hjt : (j : Int) = t
            · have q : (!((j : Int) == t)) = false := by simp [hjt]
              go_wp2
              go_quiet (fail)
              go_wp2
              go_roundw
              case rel => exact ⟨j + 1, _, by omega, by go_num, rfl⟩
              case measure => simp [intOf]; omega
            · have q : (!((j : Int) == t)) = true := by simp [hjt]
              have e := HN.out.2 j hjt
              rw [e] at k2
              generalize s.words.getD j 0 = x at *
              clear e
              go_wp2
              go_quiet (fail)
              go_wp2
              go_roundw
              case rel => exact ⟨j + 1, _, by omega, by go_num, rfl⟩
              case measure => simp [intOf]; omega
          · have l3 : 0 < s3.words.length := by have := Hl3.out; omega
            have k0 := KN.out.cell 0 l3
            have hj20 : ¬ (j : Int) < 20 := by omega
            have fz : w4.frozen? ⟨gN, 0, none⟩ = false := frozen_of_heap KN.out.row
            obtain ⟨x0, hx0⟩ : ∃ x, s3.words.getD 0 0 = x := ⟨_, rfl⟩
            rw [hx0] at k0
            have HX := hide hx0
            clear hx0
            go_wp2_with fail
            refine (load_first _ p b s3 ((K3.out.below K4.out).at_set (by omega) (by omega)) l3).mono ?_
            rintro e w5 ⟨rfl, hs5, ho5⟩
            rw [HX.out]
            have K5 := hide ho5
            have H5 := hide hs5
            clear hs5 ho5 k0 fz
            go_wp2
            go_roundw
            case rel =>
              refine ⟨k + 1, s3.load 0, by omega, by go_num, H5.out, (access_len ..).trans Hl3.out, ?_, ?_⟩
              · exact ((hR3.out.below K4.out).at_set (by omega) (by omega)).kept K5.out (by omega) (by omega)
              · exact below_only (below_drewN ((hE3.out.trans (K4.out.mono hE3.out.size)).setCell (by show _ ≤ gN; omega) _) _) (Nat.le_refl _) hp hb K5.out
            case measure => simp [intOf]; omega
      · have hk4 : (kind : Int) % 4 = 2 := by omega
        go_wp2_with fail
        refine (words20 _ p b s Hs.out Hsl.out).mono ?_
        rintro e w1 ⟨gW, rfl, hW1, hgW, hb1⟩
        have K1 := hide hb1
        have KW := hide hW1
        have z1 : wr.heap.size ≤ w1.heap.size := hb1.size
        have hop1 := (HOP.out.kept HBe.out HOP.out.lt).kept hb1 (Nat.lt_of_lt_of_le HOP.out.lt HBe.out.size)
        have c0 := hop1.c0
        have c1 := hop1.c1
        have c2 := hop1.c2
        have c3 := hop1.c3
        have lW := lt_of_heap hW1.row
        have lA := hop1.lt
        clear hb1 hW1 hop1
        go_wp2_with fail
        refine (near_cas _ p b s ((Hs.out.below K1.out).alloc _) t old v HOP.out.hv).mono ?_
        rintro e w3 ⟨rv, s3, rfl, hs3, hn3, ho3⟩
        clear c0 c1 c2 c3
        have z3 : w1.heap.size + 1 ≤ w3.heap.size := by have := ho3.size; simpa using this
        have hB3 := hide ((show Boxed w1.heap.size kind t v old (w1.alloc (.cells #[.int .u8 (kind : Int), .int .i64 t, .int .u64 (v : Int), .int .u64 (old : Int)] 30)) from heap_alloc_at w1 _).kept ho3 (by omega))
        have hW3 := hide ((show WordsAt (w1.alloc (.cells #[.int .u8 (kind : Int), .int .i64 t, .int .u64 (v : Int), .int .u64 (old : Int)] 30)) gW s.words from ⟨heap_alloc_old KW.out.row⟩).kept ho3 (by omega))
        have hR3 := hide (((Hr.out.below K1.out).alloc (.cells #[.int .u8 (kind : Int), .int .i64 t, .int .u64 (v : Int), .int .u64 (old : Int)] 30)).kept ho3 (by omega) (by omega))
        have hE3 := hide (below_only ((HBe.out.trans (K1.out.mono HBe.out.size)).alloc (Nat.le_trans HBe.out.size z1) (.cells #[.int .u8 (kind : Int), .int .i64 t, .int .u64 (v : Int), .int .u64 (old : Int)] 30)) (Nat.le_refl _) hp hb ho3)
        have HN := hide hn3
        have Hl3 := hide (hn3.1.trans Hsl.out)
        have K3 := hide hs3
        clear hs3 hn3 ho3
        go_wp2_with fail
        refine (words20 _ p b s3 K3.out Hl3.out).mono ?_
        rintro e w4 ⟨gN, rfl, hW4, hgN, hb4⟩
        have d1 : w4.cell? ⟨w1.heap.size, 1, none⟩ = some (.int .i64 t) := (hb4.cell (p := ⟨w1.heap.size, 1, none⟩) (lt_of_heap hB3.out)).trans (cell_of_heap hB3.out)
        have KWs := hide (hW3.out.below hb4)
        have KN := hide hW4
        have K4 := hide hb4
        have z4 : w3.heap.size ≤ w4.heap.size := hb4.size
        clear hb4 hW4
        go_wp2_with fail
        go_loopw [9] (fun kk wx => ∃ j nq : Nat, j ≤ 20 ∧ kk = .int .i64 j ∧ wx = w4.drewN nq) (fun kk _ => 20 - (intOf kk).toNat)
        case atStart => exact ⟨0, 0, by omega, rfl, rfl⟩
        case round =>
          obtain ⟨j, nq, hj, rfl, rfl⟩ := hrel
          by_cases hjl : j < 20
          · have l1 : j < s.words.length := by have := Hsl.out; omega
            have l2 : j < s3.words.length := by have := Hl3.out; omega
            have k1 := KWs.out.cell j l1
            have k2 := KN.out.cell j l2
            have hj20 : (j : Int) < 20 := by omega
            by_cases hjt : (j : Int) = t
            · have q : (!((j : Int) == t)) = false := by simp [hjt]
              go_wp2
              go_quiet (fail)
              go_wp2
              go_roundw
              case rel => exact ⟨j + 1, _, by omega, by go_num, rfl⟩
              case measure => simp [intOf]; omega
            · have q : (!((j : Int) == t)) = true := by simp [hjt]
              have e := HN.out.2 j hjt
              rw [e] at k2
              generalize s.words.getD j 0 = x at *
              clear e
              go_wp2
              go_quiet (fail)
              go_wp2
              go_roundw
              case rel => exact ⟨j + 1, _, by omega, by go_num, rfl⟩
              case measure => simp [intOf]; omega
          · have l3 : 0 < s3.words.length := by have := Hl3.out; omega
            have k0 := KN.out.cell 0 l3
            have hj20 : ¬ (j : Int) < 20 := by omega
            have fz : w4.frozen? ⟨gN, 0, none⟩ = false := frozen_of_heap KN.out.row
            obtain ⟨x0, hx0⟩ : ∃ x, s3.words.getD 0 0 = x := ⟨_, rfl⟩
            rw [hx0] at k0
            have HX := hide hx0
            clear hx0
            go_wp2_with fail
            refine (load_first _ p b s3 ((K3.out.below K4.out).at_set (by omega) (by omega)) l3).mono ?_
            rintro e w5 ⟨rfl, hs5, ho5⟩
            rw [HX.out]
            have K5 := hide ho5
            have H5 := hide hs5
            clear hs5 ho5 k0 fz
            go_wp2
            go_roundw
            case rel =>
              refine ⟨k + 1, s3.load 0, by omega, by go_num, H5.out, (access_len ..).trans Hl3.out, ?_, ?_⟩
              · exact ((hR3.out.below K4.out).at_set (by omega) (by omega)).kept K5.out (by omega) (by omega)
              · exact below_only (below_drewN ((hE3.out.trans (K4.out.mono hE3.out.size)).setCell (by show _ ≤ gN; omega) _) _) (Nat.le_refl _) hp hb K5.out
            case measure => simp [intOf]; omega
      · have hk4 : (kind : Int) % 4 = 3 := by omega
        go_wp2_with fail
        refine (words20 _ p b s Hs.out Hsl.out).mono ?_
        rintro e w1 ⟨gW, rfl, hW1, hgW, hb1⟩
        have K1 := hide hb1
        have KW := hide hW1
        have z1 : wr.heap.size ≤ w1.heap.size := hb1.size
        have hop1 := (HOP.out.kept HBe.out HOP.out.lt).kept hb1 (Nat.lt_of_lt_of_le HOP.out.lt HBe.out.size)
        have c0 := hop1.c0
        have c1 := hop1.c1
        have c2 := hop1.c2
        have c3 := hop1.c3
        have lW := lt_of_heap hW1.row
        have lA := hop1.lt
        clear hb1 hW1 hop1
        go_wp2_with fail
        refine (near_add _ p b s ((Hs.out.below K1.out).alloc _) t v).mono ?_
        rintro e w3 ⟨rv, s3, rfl, hs3, hn3, ho3⟩
        clear c0 c1 c2 c3
        have z3 : w1.heap.size + 1 ≤ w3.heap.size := by have := ho3.size; simpa using this
        have hB3 := hide ((show Boxed w1.heap.size kind t v old (w1.alloc (.cells #[.int .u8 (kind : Int), .int .i64 t, .int .u64 (v : Int), .int .u64 (old : Int)] 30)) from heap_alloc_at w1 _).kept ho3 (by omega))
        have hW3 := hide ((show WordsAt (w1.alloc (.cells #[.int .u8 (kind : Int), .int .i64 t, .int .u64 (v : Int), .int .u64 (old : Int)] 30)) gW s.words from ⟨heap_alloc_old KW.out.row⟩).kept ho3 (by omega))
        have hR3 := hide (((Hr.out.below K1.out).alloc (.cells #[.int .u8 (kind : Int), .int .i64 t, .int .u64 (v : Int), .int .u64 (old : Int)] 30)).kept ho3 (by omega) (by omega))
        have hE3 := hide (below_only ((HBe.out.trans (K1.out.mono HBe.out.size)).alloc (Nat.le_trans HBe.out.size z1) (.cells #[.int .u8 (kind : Int), .int .i64 t, .int .u64 (v : Int), .int .u64 (old : Int)] 30)) (Nat.le_refl _) hp hb ho3)
        have HN := hide hn3
        have Hl3 := hide (hn3.1.trans Hsl.out)
        have K3 := hide hs3
        clear hs3 hn3 ho3
        go_wp2_with fail
        refine (words20 _ p b s3 K3.out Hl3.out).mono ?_
        rintro e w4 ⟨gN, rfl, hW4, hgN, hb4⟩
        have d1 : w4.cell? ⟨w1.heap.size, 1, none⟩ = some (.int .i64 t) := (hb4.cell (p := ⟨w1.heap.size, 1, none⟩) (lt_of_heap hB3.out)).trans (cell_of_heap hB3.out)
        have KWs := hide (hW3.out.below hb4)
        have KN := hide hW4
        have K4 := hide hb4
        have z4 : w3.heap.size ≤ w4.heap.size := hb4.size
        clear hb4 hW4
        go_wp2_with fail
        go_loopw [9] (fun kk wx => ∃ j nq : Nat, j ≤ 20 ∧ kk = .int .i64 j ∧ wx = w4.drewN nq) (fun kk _ => 20 - (intOf kk).toNat)
        case atStart => exact ⟨0, 0, by omega, rfl, rfl⟩
        case round =>
          obtain ⟨j, nq, hj, rfl, rfl⟩ := hrel
          by_cases hjl : j < 20
          · have l1 : j < s.words.length := by have := Hsl.out; omega
            have l2 : j < s3.words.length := by have := Hl3.out; omega
            have k1 := KWs.out.cell j l1
            have k2 := KN.out.cell j l2
            have hj20 : (j : Int) < 20 := by omega
            by_cases hjt : (j : Int) = t
            · have q : (!((j : Int) == t)) = false := by simp [hjt]
              go_wp2
              go_quiet (fail)
              go_wp2
              go_roundw
              case rel => exact ⟨j + 1, _, by omega, by go_num, rfl⟩
              case measure => simp [intOf]; omega
            · have q : (!((j : Int) == t)) = true := by simp [hjt]
              have e := HN.out.2 j hjt
              rw [e] at k2
              generalize s.words.getD j 0 = x at *
              clear e
              go_wp2
              go_quiet (fail)
              go_wp2
              go_roundw
              case rel => exact ⟨j + 1, _, by omega, by go_num, rfl⟩
              case measure => simp [intOf]; omega
          · have l3 : 0 < s3.words.length := by have := Hl3.out; omega
            have k0 := KN.out.cell 0 l3
            have hj20 : ¬ (j : Int) < 20 := by omega
            have fz : w4.frozen? ⟨gN, 0, none⟩ = false := frozen_of_heap KN.out.row
            obtain ⟨x0, hx0⟩ : ∃ x, s3.words.getD 0 0 = x := ⟨_, rfl⟩
            rw [hx0] at k0
            have HX := hide hx0
            clear hx0
            go_wp2_with fail
            refine (load_first _ p b s3 ((K3.out.below K4.out).at_set (by omega) (by omega)) l3).mono ?_
            rintro e w5 ⟨rfl, hs5, ho5⟩
            rw [HX.out]
            have K5 := hide ho5
            have H5 := hide hs5
            clear hs5 ho5 k0 fz
            go_wp2
            go_roundw
            case rel =>
              refine ⟨k + 1, s3.load 0, by omega, by go_num, H5.out, (access_len ..).trans Hl3.out, ?_, ?_⟩
              · exact ((hR3.out.below K4.out).at_set (by omega) (by omega)).kept K5.out (by omega) (by omega)
              · exact below_only (below_drewN ((hE3.out.trans (K4.out.mono hE3.out.size)).setCell (by show _ ≤ gN; omega) _) _) (Nat.le_refl _) hp hb K5.out
            case measure => simp [intOf]; omega
    · by_cases hlt1 : k < len
      · have hlt2 : ¬ k < 100 := fun h => hlt ⟨hlt1, h⟩
        clear hlt
        go_wp2_with fail
        refine (words20 _ q c _ Hr.out rfl).mono ?_
        rintro e w1 ⟨g, rfl, hW, hg, hb1⟩
        have hE := hide (HBe.out.trans (hb1.mono HBe.out.size))
        have hR1 := hide (Hr.out.below hb1)
        have KW := hide hW
        clear hb1 hW
        go_wp2_with fail
        go_loop [14] (fun i => ∃ j : Nat, j ≤ 20 ∧ i = .int .i64 j) (fun i => 20 - (intOf i).toNat)
        case atStart => exact ⟨0, by omega, rfl⟩
        case round =>
          obtain ⟨j, hj, rfl⟩ := hrel
          by_cases hjl : j < 20
          · have c1 : w1.cell? ⟨g, j, none⟩ = some (.int .u64 0) := (KW.out.cell j (by rw [zero_len]; exact hjl)).trans (by rw [zero_get]; rfl)
            go_wp2
            go_round
            case rel => exact ⟨j + 1, by omega, by go_num⟩
            case measure => simp [intOf]; omega
          · have hj20 : ¬ (j : Int) < 20 := by omega
            have hc : Hid ((St.zero 20).count = 0) := rfl
            go_wp2_with fail
            refine (count_of _ q c _ hR1.out).mono ?_
            rintro e w2 ⟨rfl, rfl⟩
            rw [hc.out]
            go_wp2_with fail
            refine (awake2 _).mono ?_
            rintro e w3 ⟨rfl, hb3⟩
            go_wp2
            go_ret
            exact ⟨rfl, hE.out.trans (hb3.mono hE.out.size)⟩
      · clear hlt
        go_wp2_with fail
        refine (words20 _ q c _ Hr.out rfl).mono ?_
        rintro e w1 ⟨g, rfl, hW, hg, hb1⟩
        have hE := hide (HBe.out.trans (hb1.mono HBe.out.size))
        have hR1 := hide (Hr.out.below hb1)
        have KW := hide hW
        clear hb1 hW
        go_wp2_with fail
        go_loop [14] (fun i => ∃ j : Nat, j ≤ 20 ∧ i = .int .i64 j) (fun i => 20 - (intOf i).toNat)
        case atStart => exact ⟨0, by omega, rfl⟩
        case round =>
          obtain ⟨j, hj, rfl⟩ := hrel
          by_cases hjl : j < 20
          · have c1 : w1.cell? ⟨g, j, none⟩ = some (.int .u64 0) := (KW.out.cell j (by rw [zero_len]; exact hjl)).trans (by rw [zero_get]; rfl)
            go_wp2
            go_round
            case rel => exact ⟨j + 1, by omega, by go_num⟩
            case measure => simp [intOf]; omega
          · have hj20 : ¬ (j : Int) < 20 := by omega
            have hc : Hid ((St.zero 20).count = 0) := rfl
            go_wp2_with fail
            refine (count_of _ q c _ hR1.out).mono ?_
            rintro e w2 ⟨rfl, rfl⟩
            rw [hc.out]
            go_wp2_with fail
            refine (awake2 _).mono ?_
            rintro e w3 ⟨rfl, hb3⟩
            go_wp2
            go_ret
            exact ⟨rfl, hE.out.trans (hb3.mono hE.out.size)⟩

set_option maxRecDepth 100000 in
theorem lifted (os : Os) (started : os.Started) (H : Type) (enc : TypeId × Value → H) :
    ReturnsInHanded {} Try.checked os 6 .any (Rows.storeApartSpec.pre6 enc Try.prog Try.f6 Rows.storeApartRow.domain false) (Rows.storeApartSpec.post enc Try.prog Try.f6 false true false false) := by
  refine returnsInHanded_of_change (C := Try.checked) own started (by kernel_rfl) Try.func6
    (ChangeSpec.witness6 (enc := enc) (C := Try.checked) false ⟨#[], #[.slice none 0 0], []⟩ 8 (by kernel_rfl) (by kernel_rfl) (by kernel_rfl) (by kernel_rfl)) ?_
  intro W base args ds gs before hval0 hW _ _
  have hval : ∀ (j : Nat) t v, Try.f6.params[j]? = some t → args[j]? = some v → Value.okWide Try.prog W .any base t v := hval0
  have hW' := hW
  obtain ⟨p, q, hA0, hV, rfl, hfz, hnd⟩ := hW
  have hA : DataW.TrodAll enc Try.prog W 0 (fun _ => true) true Try.f6.params.toList args.toList ds p := hA0
  rw [Try.params6] at hA hval
  obtain ⟨v0, vs0, d0, ds0, p0, q0, hargs, rfl, rfl, h0, r0⟩ := trodAll_cons hA
  obtain ⟨rfl, rfl, rfl⟩ := trodAll_nil r0
  obtain rfl : args = #[v0] := by cases args; simp_all
  obtain ⟨rfl, rfl⟩ := trodVars_none hV
  have h0k := h0
  have lt0 : ∀ x ∈ p0, x.block < W.heap.size := fun x hx => hW'.lt x (by simp [hx])
  obtain ⟨l0_0, l0_1, l0_2, rfl, f0_0, f0_1, f0_2⟩ := open_ops (hval 0 22 v0 rfl rfl) h0
  clear hA0 hval0
  refine (walk l0_0 l0_1 l0_2 f0_0 f0_1 W f0_2).mono fun e W' ⟨he, bel⟩ => ?_
  subst he
  exact ⟨_, rfl, _, _, _, [], _, [], hW', trodAll_mk1 (shut_bool Try.underlying4 _), (trodAll_cons_mk (Below.trod laidOut (by kernel_rfl) (of_decide_eq_true (by kernel_rfl)) h0k bel lt0) trodAll_mk0), rfl, bel.frame _, fun h => by cases h⟩

end Go.Proofs.Ytlanfpefifegpaa.storeApart
namespace Go.Proofs.Ytlanfpefifegpaa

theorem storeApart_holds : Rows.StoreApartSaid :=
  OpenClaim.holds_of_wide 6 Try.f6 rfl rfl rfl rfl rfl rfl rfl ⟨rfl, rfl, rfl, rfl, rfl⟩ rfl rfl rfl rfl rfl (by kernel_rfl) Try.func6 (by kernel_rfl)
    (of_decide_eq_true (by kernel_rfl)) (by unfold Func.isWrapper; first | (rw [if_pos (by decide +kernel)]; kernel_rfl) | (rw [if_neg (by decide +kernel)]; exact ⟨rfl, rfl⟩))
    (fun os started H enc _ => storeApart.lifted os started H enc)
end Go.Proofs.Ytlanfpefifegpaa
