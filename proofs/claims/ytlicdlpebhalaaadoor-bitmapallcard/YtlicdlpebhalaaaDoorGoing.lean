/- The iterator over the words of a stretch of bits: what it yields, to whatever loop body keeps its two bounds. -/
import Derived.Test.YtlicdlpebhalaaaDoorWords
import Derived.Test.YtlicdlpebhalaaaDoorStretch
import Derived.Test.YtlicdlpebhalaaaDoorIter
namespace Go.Proofs.YtlicdlpebhalaaaDoor
open Go.RowKit Go.Shelf

attribute [local go_sem] Oper.semAt_some

/-- A word of a stretch that lies in K words. -/
abbrev Part (K : Nat) := { p : Nat × Nat // p.1 < K ∧ p.2 < 18446744073709551616 }
/-- As it is yielded. -/
def encPart {K : Nat} (p : Part K) : Array Value := #[.agg #[.int .i64 (p.1.1 : Int), .int .u64 (p.1.2 : Int)]]

theorem partMem (a e K : Nat) (h : e ≤ 64 * K) : ∀ p ∈ Bitm.partsAll a (e - a), p.1 < K ∧ p.2 < 18446744073709551616 := by
  by_cases ha : a ≤ e
  · exact Bitm.parts_below a (e - a) K (by omega)
  · intro p hp; rw [Bitm.parts_none _ _ (by omega)] at hp; cases hp

theorem onesIn (n : Nat) (l : Nat) (h : l ≤ 64) (w : World) : CallsIn Fence.wide n Tryd.prog 41 #[.int .i64 (l : Int)] w fun e w' => e = .returned (.int .u64 (Plain.ones l)) ∧ w' = w := callsIn_wide.2 (ones15N l h w)

theorem mask_key (i e : Nat) (h : i < e) : IntKind.u64.wrap ((Plain.ones (Bitm.size i e) : Int) * 2 ^ (i % 64)) = (Bitm.mask i e : Int) := by
  have := Bitm.mask_lt i e h
  rw [show ((Plain.ones (Bitm.size i e) : Int) * 2 ^ (i % 64)) = ((Bitm.mask i e : Nat) : Int) from by unfold Bitm.mask; simp]
  exact wrap_nat _ this

set_option maxRecDepth 100000 in
set_option maxHeartbeats 1000000 in
theorem parts40 (n : Nat) (hn : 1 ≤ n) (l Ba Be : Nat) (a e K : Nat) (he : e ≤ 64 * K) (hK : K ≤ 72057594037927936) (Kp : World → World → Prop) (hKp : ∀ A B, Kp A B → B.cell? ⟨Be, 0, none⟩ = A.cell? ⟨Be, 0, none⟩) (J Jx : List (Part K) → World → Prop)
    (hY : ∀ pre (p : Part K) W, J pre W → pre.length < (Bitm.partsAll a (e - a)).length → YieldAt Fence.wide (n - 1) Tryd.prog l (encPart p) W fun e W' =>
      (e = .returned (.bool true) ∧ J (pre ++ [p]) W' ∧ Kp W W') ∨ (e = .returned (.bool false) ∧ Jx (pre ++ [p]) W'))
    (W : World) (hca : W.cell? ⟨Ba, 0, none⟩ = some (.int .i64 (a : Int))) (hce : W.cell? ⟨Be, 0, none⟩ = some (.int .i64 (e : Int))) (h0 : J [] W) :
    CallsIn Fence.wide n Tryd.prog 40 #[.func (.yield l) #[] #[], .pointer (some ⟨Ba, 0, none⟩), .pointer (some ⟨Be, 0, none⟩)] W fun r W' => (∃ v, r = .returned v) ∧
      ((∃ ys : List (Part K), ys.map (·.1) = Bitm.partsAll a (e - a) ∧ J ys W') ∨ (∃ pre : List (Part K), pre.map (·.1) <+: Bitm.partsAll a (e - a) ∧ Jx pre W')) := by
  have HM := hide (partMem a e K he)
  have heK : (e : Int) ≤ 4611686018427387904 := by omega
  refine callsIn_of_wp Tryd.func40 rfl trivial ?_ rfl
  simp only [Tryd.ntmps40, List.size_toArray, List.length_cons, List.length_nil, Nat.reduceAdd, Nat.reduceSub, Array.replicate_succ, Array.replicate_zero, List.push_toArray, List.append_toArray, List.nil_append, List.cons_append]
  gi_wp2
  gi_loopw [4] (fun r wr => ∃ (pre : List (Part K)) (i : Nat), r = .int .i64 (i : Int) ∧ i ≤ max a e ∧ Bitm.partsAll a (e - a) = pre.map (·.1) ++ Bitm.partsAll i (e - i) ∧ wr.cell? ⟨Be, 0, none⟩ = some (.int .i64 (e : Int)) ∧ J pre wr)
    (fun r _ => e - (intOf r).toNat)
  case atStart =>
    exact ⟨[], a, rfl, by omega, rfl, hce, h0⟩
  case round =>
    obtain ⟨pre, i, rfl, hi, hp, hcr, hJs⟩ := hrel
    have HP := hide hp
    clear hp
    by_cases hlt : i < e
    · have hpc := Bitm.parts_cons i e hlt
      have hm : (i / 64, Bitm.mask i e) ∈ Bitm.partsAll a (e - a) := by rw [HP.out, hpc]; simp
      have hlen : pre.length < (Bitm.partsAll a (e - a)).length := by rw [HP.out, hpc]; simp
      obtain ⟨P, hP⟩ : ∃ P : Part K, P.1 = (i / 64, Bitm.mask i e) := ⟨⟨_, HM.out _ hm⟩, rfl⟩
      have hYY := hY pre P wr hJs hlen
      rw [show encPart P = #[.agg #[.int .i64 ((i / 64 : Nat) : Int), .int .u64 (Bitm.mask i e : Int)]] from by rw [encPart, hP]] at hYY
      have HPP := hide hP
      clear hP
      have hs1 := Bitm.size_pos i e hlt
      have hs2 : i + Bitm.size i e ≤ e := by have := Bitm.size_le i e; omega
      have hs3 : ((64 : Int) - ((i % 64 : Nat) : Int) ≤ (e : Int) - (i : Int) ∧ (64 : Int) - ((i % 64 : Nat) : Int) = (Bitm.size i e : Int)) ∨ (¬ (64 : Int) - ((i % 64 : Nat) : Int) ≤ (e : Int) - (i : Int) ∧ (e : Int) - (i : Int) = (Bitm.size i e : Int)) := by unfold Bitm.size; omega
      have hs4 : Bitm.size i e ≤ 64 := by unfold Bitm.size; omega
      have hO := fun n => hide (onesIn n (Bitm.size i e) hs4 wr)
      have hK1 := mask_key i e hlt
      have hq : ((i : Int) / 64) = ((i / 64 : Nat) : Int) := by simp
      have hr : ((i : Int) % 64) = ((i % 64 : Nat) : Int) := by simp
      have hr64 : i % 64 < 64 := by omega
      have HPC := hide hpc
      generalize Bitm.mask i e = m at *
      generalize Bitm.size i e = s at *
      generalize i / 64 = q at *
      generalize i % 64 = b at *
      clear hpc hlen hm hs1
      obtain ⟨fn, tmps, assign, body, hy1, hR⟩ := hYY
      rcases hs3 with ⟨hs3, hs5⟩ | ⟨hs3, hs5⟩
      · gi_wp2_with (refine ⟨trivial, ?_⟩; gi_at_call 41; refine (hO _).out.mono ?_; rintro e w' ⟨rfl, rfl⟩)
        refine hR.mono ?_
        rintro r W3 (⟨rfl, hJ3, hk3⟩ | ⟨rfl, hJx3⟩)
        · gi_wp2
          go_roundw
          case rel => exact ⟨pre ++ [P], i + s, by go_num, by omega, by rw [HP.out, HPC.out, List.map_append, List.map_cons, HPP.out]; simp, (hKp _ _ hk3).trans hcr, hJ3⟩
          case measure => simp [intOf]; omega
        · gi_wp2
          refine bodyPost_ret (results_none rfl _ _ _) rfl ?_
          exact ⟨⟨_, rfl⟩, .inr ⟨pre ++ [P], ⟨Bitm.partsAll (i + s) (e - (i + s)), by rw [HP.out, HPC.out, List.map_append, List.map_cons, HPP.out]; simp⟩, hJx3⟩⟩
      · gi_wp2_with (refine ⟨trivial, ?_⟩; gi_at_call 41; refine (hO _).out.mono ?_; rintro e w' ⟨rfl, rfl⟩)
        refine hR.mono ?_
        rintro r W3 (⟨rfl, hJ3, hk3⟩ | ⟨rfl, hJx3⟩)
        · gi_wp2
          go_roundw
          case rel => exact ⟨pre ++ [P], i + s, by go_num, by omega, by rw [HP.out, HPC.out, List.map_append, List.map_cons, HPP.out]; simp, (hKp _ _ hk3).trans hcr, hJ3⟩
          case measure => simp [intOf]; omega
        · gi_wp2
          refine bodyPost_ret (results_none rfl _ _ _) rfl ?_
          exact ⟨⟨_, rfl⟩, .inr ⟨pre ++ [P], ⟨Bitm.partsAll (i + s) (e - (i + s)), by rw [HP.out, HPC.out, List.map_append, List.map_cons, HPP.out]; simp⟩, hJx3⟩⟩
    · gi_wp2
      go_end0
      exact ⟨⟨_, rfl⟩, .inl ⟨pre, by rw [HP.out, Bitm.parts_none _ _ (by omega), List.append_nil], hJs⟩⟩

theorem partsIn (n : Nat) (a e : Int) (w : World) :
    CallsIn Fence.wide n Tryd.prog 29 #[.int .i64 a, .int .i64 e] w fun r w' => r = .returned (.func (.func 40) #[] #[.pointer (some ⟨w.heap.size, 0, none⟩), .pointer (some ⟨w.heap.size + 1, 0, none⟩)]) ∧
      w' = (w.alloc (.cells #[.int .i64 a] 3)).alloc (.cells #[.int .i64 e] 3) := by
  refine callsIn_of_wp Tryd.func29 rfl trivial ?_ rfl
  simp only [Tryd.ntmps29, List.size_toArray, List.length_cons, List.length_nil, Nat.reduceAdd, Nat.reduceSub, Array.replicate_succ, Array.replicate_zero, List.push_toArray, List.append_toArray, List.nil_append, List.cons_append]
  gi_wp2
  go_ret
  exact ⟨rfl, rfl⟩

/-- What lies in a block is kept. -/
def KeepsAt (B : Nat) (W W' : World) : Prop := W'.heap[B]? = W.heap[B]?
theorem KeepsAt.refl (B : Nat) (W : World) : KeepsAt B W W := rfl
theorem KeepsAt.trans {B : Nat} {X Y Z : World} (h : KeepsAt B X Y) (k : KeepsAt B Y Z) : KeepsAt B X Z := Eq.trans k h
theorem KeepsAt.put {B : Nat} {w : World} (hB : B < w.heap.size) (W : World) (l : Nat) (o o' : Obj) (hl : w.heap.size ≤ l) (_ : W.heap[l]? = some o) (_ : o.isCells = false) (_ : o.isWalk = false) : KeepsAt B W (W.putObj l o') := World.putObj_heap_other (by omega)
theorem KeepsAt.cell {B : Nat} {W W' : World} (h : KeepsAt B W W') : W'.cell? ⟨B, 0, none⟩ = W.cell? ⟨B, 0, none⟩ := World.cell?_of_block (a := ⟨B, 0, none⟩) h
theorem KeepsAt.set {B : Nat} {X W : World} (h : KeepsAt B X W) {p : Addr} (hp : B ≠ p.block) (v : Value) : KeepsAt B X (W.setCell p v) := (Below.heap_setCell _ _ _ _ hp).trans h
theorem KeepsAt.alloc {B : Nat} {X W : World} (h : KeepsAt B X W) (hB : B < W.heap.size) (o : Obj) : KeepsAt B X (W.alloc o) := (Below.heap_alloc _ _ _ hB).trans h
theorem KeepsAt.below {B n : Nat} {X Y W : World} (h : KeepsAt B X Y) (hb : Below n Y W) (hB : B < n) : KeepsAt B X W := (hb.block B hB).trans h
theorem KeepsAt.drew {B : Nat} {X W : World} (h : KeepsAt B X W) : KeepsAt B X W.drew := h

theorem partsStops (n : Nat) (hn : 1 ≤ n) (Ba Be : Nat) (a e K : Nat) (he : e ≤ 64 * K) (hK : K ≤ 72057594037927936) (Kp : World → World → Prop) (hKp : ∀ A B, Kp A B → B.cell? ⟨Be, 0, none⟩ = A.cell? ⟨Be, 0, none⟩)
    (w : World) (hBa : Ba < w.heap.size) (hBe : Be < w.heap.size) (hca : w.cell? ⟨Ba, 0, none⟩ = some (.int .i64 (a : Int))) (hce : w.cell? ⟨Be, 0, none⟩ = some (.int .i64 (e : Int))) :
    SeqStopsK Fence.wide n Tryd.prog 40 #[.pointer (some ⟨Ba, 0, none⟩), .pointer (some ⟨Be, 0, none⟩)] (encPart (K := K)) Kp (fun ys => ys.map (·.1) = Bitm.partsAll a (e - a)) (fun pre => pre.map (·.1) <+: Bitm.partsAll a (e - a)) (Bitm.partsAll a (e - a)).length w :=
  fun l J Jx W hW _ _ hY h0 => parts40 n hn l Ba Be a e K he hK Kp hKp J Jx hY W ((hW.cell (p := ⟨Ba, 0, none⟩) hBa).trans hca) ((hW.cell (p := ⟨Be, 0, none⟩) hBe).trans hce) h0

end Go.Proofs.YtlicdlpebhalaaaDoor
