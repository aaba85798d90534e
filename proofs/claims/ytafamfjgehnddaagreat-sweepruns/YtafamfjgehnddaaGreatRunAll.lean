/- Package runs: the iterator all; Total. -/
import Derived.Test.YtafamfjgehnddaaGreatRunTake
import Derived.Test.YtafamfjgehnddaaGreatPhaseC
import Derived.Sort.LoopGhostIn
import Derived.Shelf.Abstract
import Derived.Sort.QuietIn
import Derived.OwnWalkIn
namespace Go.Proofs.YtafamfjgehnddaaGreat
open Go.RowKit

attribute [local go_sem] Oper.semAt_some

def runVal (k : Int) : Array Value := #[.int .i64 (rA k), .int .i64 (rN k)]

theorem all39 (n : Nat) (q : Option Addr) (w : World) :
    CallsIn Fence.wide n Tryz.prog 70 #[.pointer q] w fun e w' => e = .returned (.func (.func 117) #[] #[.pointer (some ⟨w.heap.size, 0, none⟩)]) ∧
      w' = w.alloc (.cells #[.pointer q] 103) := by
  refine callsIn_of_wp Tryz.func70 rfl trivial ?_ rfl
  simp only [Tryz.ntmps70, List.size_toArray, List.length_cons, List.length_nil, Nat.reduceAdd, Nat.reduceSub, Array.replicate_succ, Array.replicate_zero, List.push_toArray, List.append_toArray, List.nil_append, List.cons_append]
  gi_wp2
  go_ret
  exact ⟨rfl, rfl⟩

set_option maxRecDepth 100000 in
set_option maxHeartbeats 2000000 in
/-- The runs, by their keys. -/
theorem allSeq (n : Nat) (hn : 1 ≤ n) (A Bt r t : Nat) (T : Tr Unit) (pg : Nat) (a : Option Addr) (c : Nat) (ds : List Nat) (dn : Nat) (L : RL) (w : World) (h : RAt w r t T pg a c ds dn L) (hf : Fine pg ds dn L) (hBt : Bt < w.heap.size) (hcb : w.cell? ⟨Bt, 0, none⟩ = some (.pointer (some ⟨r, 0, none⟩))) :
    SeqC Fence.wide n Tryz.prog 117 #[.pointer (some ⟨Bt, 0, none⟩)] (fun k : Int => #[.agg (runVal k)]) A (L.map (·.1)) w := by
  intro Y J Jx W hW hJ hJx hY h0
  have h1 : 1 ≤ n := hn
  have c0 : W.cell? ⟨Bt, 0, none⟩ = some (.pointer (some ⟨r, 0, none⟩)) := (hW.cell (p := ⟨Bt, 0, none⟩) hBt).trans hcb
  replace h := h.below hW
  obtain ⟨_, c1, _, _, _⟩ := h.cells
  have hl := hf.len
  have HKE := fun n => hide ((callsIn_wide (n := n)).2 (keysE W t T L h.tree (by omega)))
  have HRO := fun n k hk w => hide ((callsIn_wide (n := n)).2 (runOf50 k hk w))
  have HKY : Hid (∀ k ∈ L.map (·.1), 0 ≤ k ∧ k < 1000000000) := hide (fun k hk => by
    obtain ⟨i, hi, rfl⟩ := List.mem_map.1 hk
    have := hf.key hi
    omega)
  obtain ⟨m, hm⟩ : ∃ m, L.length = m := ⟨_, rfl⟩
  have HM : Hid ((L.map (·.1)).length = m) := hide (by rw [List.length_map, hm])
  rw [hm] at HKE hl
  clear hW hcb hBt h hf hm
  obtain ⟨S, hS⟩ : ∃ S, W.heap.size = S := ⟨_, rfl⟩
  rw [hS] at hJ hJx hY HKE
  have HS := hide hS
  clear hS
  generalize L.map (·.1) = K at *
  refine callsIn_of_wp Tryz.func117 rfl trivial ?_ rfl
  simp only [Tryz.ntmps117, List.size_toArray, List.length_cons, List.length_nil, Nat.reduceAdd, Nat.reduceSub, Array.replicate_succ, Array.replicate_zero, List.push_toArray, List.append_toArray, List.nil_append, List.cons_append]
  gi_wp2_with (refine ⟨trivial, ?_⟩; gi_at_call 118; refine (HKE _).out.mono ?_; rintro e w1 ⟨v, rfl, hown, hb1⟩; obtain ⟨va, vc, rfl⟩ := ownsRow_slice hown)
  have HOW := hide hown
  have HB1 : Hid (Below S W w1) := hide hb1
  have HJ1 : Hid (J [] w1) := hide (hJ _ _ _ h0 hb1)
  clear hown hb1 h0 c0 c1 HKE
  have hS1 : S ≤ w1.heap.size := by have := HB1.out.size; have := HS.out; omega
  gi_loopg [4, 13] m (fun g r4 r13 wr => ∃ (pre rest : List Int), rest.length = g ∧ r13 = .int .i64 (pre.length : Int) ∧ K = pre ++ rest ∧ J pre wr ∧ S ≤ wr.heap.size ∧ wr.ownsRow S 3 1 (.slice va m vc) m (intVals K))
  case atStart => exact ⟨[], K, HM.out, rfl, by simp, HJ1.out, hS1, HOW.out⟩
  case round =>
    clear HJ1 HB1 HOW hS1
    obtain ⟨pre, rest, hg, rfl, hK, hJr, hSr, hrow⟩ := hrel
    have hlen : pre.length + rest.length = m := by rw [← HM.out, hK]; simp
    have hg2 : rest.length = gk := hg
    cases rest with
    | nil =>
      simp only [List.length_nil, Nat.add_zero] at hlen
      have HE : Hid (J K wr) := hide (by rw [hK, List.append_nil]; exact hJr)
      have d1 : decide ((pre.length : Int) < (m : Int)) = false := by simp; omega
      have d2 : decide (pre.length < m) = false := by simp; omega
      clear hK hJr hrow hg hg2
      gi_wp2
      go_end0
      exact ⟨⟨_, rfl⟩, .inl HE.out⟩
    | cons k rest =>
      rw [List.length_cons] at hlen
      have hva : ∃ g, va = some ⟨g, 0, none⟩ := by
        rcases hrow.2 with ⟨_, h00⟩ | ⟨g, cap, cur, hv, _⟩
        · omega
        · cases hv; exact ⟨g, rfl⟩
      obtain ⟨g, rfl⟩ := hva
      have hki := World.ownsRow.cellAt hrow pre.length (by omega)
      have hkv : (intVals K)[pre.length]? = some (.int .i64 k) := by rw [hK]; simp [intVals]
      rw [hkv] at hki
      have hkk := HKY.out k (by rw [hK]; simp)
      have HPK : Hid ((pre ++ [k]) <+: K) := hide ⟨rest, by rw [hK]; simp⟩
      have HK' : Hid (K = (pre ++ [k]) ++ rest) := hide (by rw [hK]; simp)
      have HROW := hide hrow
      have HJR := hide hJr
      have d1 : decide ((pre.length : Int) < (m : Int)) = true := by simp; omega
      have d2 : decide (pre.length < m) = true := by simp; omega
      have HG : Hid (rest.length + 1 = gk) := hide (by simpa using hg2)
      clear hrow hK hJr hkv hg hg2
      gi_wp2_with (refine ⟨trivial, ?_⟩; gi_at_call 119; refine (HRO _ k hkk _).out.mono ?_; rintro e w2 ⟨rfl, hb2⟩)
      have hbS : Below S wr w2 := hb2.mono hSr
      have hJ2 := hJ _ _ _ HJR.out hbS
      have hS2 : S ≤ w2.heap.size := Nat.le_trans hSr hb2.size
      obtain ⟨fn, tmps, assign, body, hy1, hR⟩ := hY pre k w2 hJ2 hS2 HPK.out
      have HROW2 := hide (ownsRow_below HROW.out hb2 (HROW.out.lt g rfl).2)
      clear hJ2 hb2 hbS HROW
      simp only [runVal] at hy1 hR
      rw [hy1]
      refine ⟨by first | exact fun _ => h1 | exact h1 | trivial, hR.mono ?_⟩
      rintro e W3 ⟨ho3, ⟨rfl, hJ3⟩ | ⟨rfl, hJ3⟩⟩
      · have HO3 := hide ho3
        have HJ3 := hide hJ3
        clear hR ho3 hJ3 hki
        gi_wp2
        gi_roundg rest.length
        case measure => have := HG.out; omega
        case rel => exact ⟨pre ++ [k], rest, rfl, by simp, HK'.out, HJ3.out, Nat.le_trans hS2 HO3.out.size, ownsRow_only HROW2.out HO3.out (fun x hx => hx.2)⟩
      · have HJ3 := hide hJ3
        clear hR ho3 hJ3 hki
        gi_wp2
        (try simp only [Exit.inBlock, Exit.then]); refine bodyPost_ret (results_none rfl _ _ _) rfl ?_
        exact ⟨⟨_, rfl⟩, .inr HJ3.out⟩

/-- How many pages are free. -/
def totL (L : RL) : Int := (L.map fun i => rN i.1).sum
theorem tot_bd {pg : Nat} {ds : List Nat} {dn : Nat} {L : RL} (hf : Fine pg ds dn L) : ∀ M : List Int, M <+: L.map (·.1) → 0 ≤ (M.map rN).sum ∧ (M.map rN).sum ≤ 4096 * M.length := by
  intro M hM
  have hk : ∀ k ∈ M, 0 ≤ rN k ∧ rN k ≤ 4096 := fun k hk => by
    obtain ⟨i, hi, rfl⟩ := List.mem_map.1 (hM.subset hk)
    have := hf.key hi; have := rA_bd i.1; omega
  clear hM
  induction M with
  | nil => simp
  | cons k M ih =>
    have h1 := ih (fun x hx => hk x (by simp [hx]))
    have h2 := hk k (by simp)
    simp only [List.map_cons, List.sum_cons, List.length_cons]
    omega

end Go.Proofs.YtafamfjgehnddaaGreat
