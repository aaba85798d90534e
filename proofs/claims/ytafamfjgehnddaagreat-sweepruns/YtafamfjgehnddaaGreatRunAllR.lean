/- Package runs: the iterator all, told so that both sides may grow. -/
import Derived.Test.YtafamfjgehnddaaGreatRunAll
import Derived.Test.YtafamfjgehnddaaGreatPhaseR
namespace Go.Proofs.YtafamfjgehnddaaGreat
open Go.RowKit

attribute [local go_sem] Oper.semAt_some

set_option maxRecDepth 100000 in
set_option maxHeartbeats 2000000 in
/-- The runs, by their keys. -/
theorem allSeqR (n : Nat) (hn : 1 ≤ n) (Bt r t : Nat) (T : Tr Unit) (pg : Nat) (a : Option Addr) (c : Nat) (ds : List Nat) (dn : Nat) (L : RL) (w : World) (h : RAt w r t T pg a c ds dn L) (hf : Fine pg ds dn L) (hBt : Bt < w.heap.size) (hcb : w.cell? ⟨Bt, 0, none⟩ = some (.pointer (some ⟨r, 0, none⟩))) :
    SeqR Fence.wide n Tryz.prog 117 #[.pointer (some ⟨Bt, 0, none⟩)] (fun k : Int => #[.agg (runVal k)]) (L.map (·.1)) w := by
  intro Y J Jx W G0 hW hJ hJx hY h0
  have h1 : 1 ≤ n := hn
  have c0 : W.cell? ⟨Bt, 0, none⟩ = some (.pointer (some ⟨r, 0, none⟩)) := (hW.cell (p := ⟨Bt, 0, none⟩) hBt).trans hcb
  replace h := h.below hW
  obtain ⟨_, c1, _, _, _⟩ := h.cells
  have hl := hf.len
  have HKE := fun n => hide ((callsIn_wide (n := n)).2 (keysE W t T L h.tree (by omega)))
  have HRO := fun n k hk w => hide ((callsIn_wide (n := n)).2 (runOf50 k hk w))
  have HKY : Hid (∀ k ∈ L.map (·.1), 0 ≤ k ∧ k < 1000000000) := hide (fun k hk => by
    obtain ⟨i, hi, rfl⟩ := List.mem_map.1 hk
    have := hf.key hi
    omega)
  obtain ⟨m, hm⟩ : ∃ m, L.length = m := ⟨_, rfl⟩
  have HM : Hid ((L.map (·.1)).length = m) := hide (by rw [List.length_map, hm])
  rw [hm] at HKE hl
  clear hW hcb hBt h hf hm
  obtain ⟨S, hS⟩ : ∃ S, W.heap.size = S := ⟨_, rfl⟩
  rw [hS] at HKE
  have HS := hide hS
  clear hS
  generalize L.map (·.1) = K at *
  refine callsIn_of_wp Tryz.func117 rfl trivial ?_ rfl
  simp only [Tryz.ntmps117, List.size_toArray, List.length_cons, List.length_nil, Nat.reduceAdd, Nat.reduceSub, Array.replicate_succ, Array.replicate_zero, List.push_toArray, List.append_toArray, List.nil_append, List.cons_append]
  gi_wp2_with (refine ⟨trivial, ?_⟩; gi_at_call 118; refine (HKE _).out.mono ?_; rintro e w1 ⟨v, rfl, hown, hb1⟩; obtain ⟨va, vc, rfl⟩ := ownsRow_slice hown)
  have HOW := hide hown
  have HB1 : Hid (Below S W w1) := hide hb1
  have HJ1 : Hid (J [] w1 G0) := hide ((hJ _).kept h0 (Below.only (by rw [HS.out]; exact hb1) (fun _ => False)) (fun _ _ h => h))
  have HG0 : Hid (∀ x, G0 x → x < S) := hide (fun x hx => by rw [← HS.out]; exact (hJ _).lt h0 hx)
  have HO1 : Hid (Only G0 W w1) := hide (Below.only (by rw [HS.out]; exact hb1) _)
  clear hown hb1 h0 c0 c1 HKE
  have hS1 : S ≤ w1.heap.size := by have := HB1.out.size; have := HS.out; omega
  gi_loopg [4, 13] m (fun g r4 r13 wr => ∃ (pre rest : List Int), rest.length = g ∧ r13 = .int .i64 (pre.length : Int) ∧ K = pre ++ rest ∧ (∃ G, J pre wr G ∧ (∀ y, G y → G0 y ∨ S ≤ y) ∧ Only G0 W wr ∧ (∀ b, va = some b → b.block < wr.heap.size ∧ ¬ G b.block)) ∧ S ≤ wr.heap.size ∧ wr.ownsRow S 3 1 (.slice va m vc) m (intVals K))
  case atStart => 
    refine ⟨[], K, HM.out, rfl, by simp, ⟨G0, HJ1.out, fun _ h => .inl h, HO1.out, fun b hb => ?_⟩, hS1, HOW.out⟩
    subst hb
    have hl := HOW.out.lt b.block rfl
    exact ⟨hl.2, fun h => by have := HG0.out _ h; omega⟩
  case round =>
    clear HJ1 HB1 HOW hS1 HO1
    obtain ⟨pre, rest, hg, rfl, hK, ⟨G1, hJr, hG1, hO1, hva1⟩, hSr, hrow⟩ := hrel
    have HX := hide (And.intro hG1 hO1)
    clear hG1 hO1
    have hlen : pre.length + rest.length = m := by rw [← HM.out, hK]; simp
    have hg2 : rest.length = gk := hg
    cases rest with
    | nil =>
      simp only [List.length_nil, Nat.add_zero] at hlen
      have HE : Hid (J K wr G1) := hide (by rw [hK, List.append_nil]; exact hJr)
      have d1 : decide ((pre.length : Int) < (m : Int)) = false := by simp; omega
      have d2 : decide (pre.length < m) = false := by simp; omega
      clear hK hJr hrow hg hg2
      gi_wp2
      go_end0
      exact ⟨⟨_, rfl⟩, G1, HX.out.2, by rw [HS.out]; exact HX.out.1, .inl HE.out⟩
    | cons k rest =>
      rw [List.length_cons] at hlen
      have hva : ∃ g, va = some ⟨g, 0, none⟩ := by
        rcases hrow.2 with ⟨_, h00⟩ | ⟨g, cap, cur, hv, _⟩
        · omega
        · cases hv; exact ⟨g, rfl⟩
      obtain ⟨g, rfl⟩ := hva
      have HNG := hide (hva1 _ rfl)
      clear hva1
      have hki := World.ownsRow.cellAt hrow pre.length (by omega)
      have hkv : (intVals K)[pre.length]? = some (.int .i64 k) := by rw [hK]; simp [intVals]
      rw [hkv] at hki
      have hkk := HKY.out k (by rw [hK]; simp)
      have HPK : Hid ((pre ++ [k]) <+: K) := hide ⟨rest, by rw [hK]; simp⟩
      have HK' : Hid (K = (pre ++ [k]) ++ rest) := hide (by rw [hK]; simp)
      have HROW := hide hrow
      have HJR := hide hJr
      have d1 : decide ((pre.length : Int) < (m : Int)) = true := by simp; omega
      have d2 : decide (pre.length < m) = true := by simp; omega
      have HG : Hid (rest.length + 1 = gk) := hide (by simpa using hg2)
      clear hrow hK hJr hkv hg hg2
      gi_wp2_with (refine ⟨trivial, ?_⟩; gi_at_call 119; refine (HRO _ k hkk _).out.mono ?_; rintro e w2 ⟨rfl, hb2⟩)
      have hJ2 := (hJ _).kept HJR.out (Below.only hb2 (fun _ => False)) (fun _ _ h => h)
      have hS2 : S ≤ w2.heap.size := Nat.le_trans hSr hb2.size
      obtain ⟨fn, tmps, assign, body, hy1, hR⟩ := hY pre k w2 G1 hJ2 HPK.out
      have HROW2 := hide (ownsRow_below HROW.out hb2 HNG.out.1)
      have hg2 : g < w2.heap.size := Nat.lt_of_lt_of_le HNG.out.1 hb2.size
      have HO2 : Hid (Only G0 W w2) := hide (HX.out.2.trans (Below.only hb2 _))
      clear hJ2 hb2 HROW
      simp only [runVal] at hy1 hR
      rw [hy1]
      refine ⟨by first | exact fun _ => h1 | exact h1 | trivial, hR.mono ?_⟩
      rintro e W3 ⟨G2, ho3, hg3, ⟨rfl, hJ3⟩ | ⟨rfl, hJ3⟩⟩
      · have HO3 := hide ho3
        have HJ3 := hide hJ3
        have HG3 := hide hg3
        clear hR ho3 hJ3 hki hg3
        gi_wp2
        gi_roundg rest.length
        case measure => have := HG.out; omega
        case rel =>
          refine ⟨pre ++ [k], rest, rfl, by simp, HK'.out, ⟨G2, HJ3.out, fun y hy => ?_, HO2.out.thenNew HO3.out (fun y hy h => ?_), fun b hb => ?_⟩, Nat.le_trans hS2 HO3.out.size, ownsRow_same HROW2.out (HO3.out.block g hg2 HNG.out.2)⟩
          · rcases HG3.out y hy with q | q
            · exact HX.out.1 y q
            · exact .inr (by omega)
          · rcases HX.out.1 y h with q | q
            · exact q
            · have := HS.out; omega
          · cases hb
            exact ⟨Nat.lt_of_lt_of_le hg2 HO3.out.size, fun h => by rcases HG3.out g h with q | q; exact HNG.out.2 q; omega⟩
      · have HJ3 := hide hJ3
        have HO3 := hide ho3
        have HG3 := hide hg3
        clear hR ho3 hJ3 hki hg3
        gi_wp2
        (try simp only [Exit.inBlock, Exit.then]); refine bodyPost_ret (results_none rfl _ _ _) rfl ?_
        refine ⟨⟨_, rfl⟩, G2, HO2.out.thenNew HO3.out (fun y hy h => ?_), fun y hy => ?_, .inr HJ3.out⟩
        · rcases HX.out.1 y h with q | q
          · exact q
          · have := HS.out; omega
        · rcases HG3.out y hy with q | q
          · have := HX.out.1 y q; rw [HS.out]; exact this
          · exact .inr (by rw [HS.out]; omega)
end Go.Proofs.YtafamfjgehnddaaGreat
