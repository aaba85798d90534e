/- Phase's laws inside a fence that lets every function in; and the range over an iterator that writes memory of its own. (Of any program.) -/
import Derived.Test.YtafamfjgehnddaaPhase
import Derived.Test.YtafamfjgehnddaaHeap
import Derived.RangeFuncNested
import Derived.OrdersIn
namespace Go.Proofs.Ytafamfjgehnddaa
open Go Go.RowKit

section
variable {F : Fence} {n : Nat} {P : Program} {ops : Array Oper} {Q : Exit → Act → World → Prop} {md : Region.Mode}

def wpAnyK (F : Fence) (n : Nat) (P : Program) (md : Region.Mode) (ops : Array Oper) (Q : Exit → Act → World → Prop) (J : World → Prop) : Nat → Array Bool → Act → World → Prop
  | 0, listed, a, w => Region.ready md ops listed = [] ∧ Q .normal a w
  | fuel + 1, listed, a, w => (Region.ready md ops listed = [] → Q .normal a w) ∧
    ∀ i ∈ Region.ready md ops listed, wpOpIn F n P ops Q i (fun a' w' => J w' ∧ wpAnyK F n P md ops Q J fuel (listed.setIfInBounds i true) a' w') a w

theorem wpAnyK.any {J : World → Prop} : ∀ (fuel : Nat) (listed : Array Bool) (a : Act) (w : World), wpAnyK F n P md ops Q J fuel listed a w → wpAnyIn F n P md ops Q fuel listed a w
  | 0, _, _, _, h => h
  | fuel + 1, _, _, _, h => ⟨h.1, fun i hi => wpOpIn_mono (fun a' w' h' => wpAnyK.any fuel _ a' w' h'.2) (h.2 i hi)⟩

theorem wpAnyK.mono {J J' : World → Prop} (hJ : ∀ w, J w → J' w) : ∀ (fuel : Nat) (listed : Array Bool) (a : Act) (w : World), wpAnyK F n P md ops Q J fuel listed a w → wpAnyK F n P md ops Q J' fuel listed a w
  | 0, _, _, _, h => h
  | fuel + 1, _, _, _, h => ⟨h.1, fun i hi => wpOpIn_mono (fun a' w' h' => ⟨hJ _ h'.1, wpAnyK.mono hJ fuel _ a' w' h'.2⟩) (h.2 i hi)⟩

theorem Steady.wpOpIn {J : World → Prop} (hF : ∀ f, F.fn f) (hro : F.round = none) {i : Nat} {o : Oper} {v : Value} {a : Act} {w : World} {K : Act → World → Prop} (hi : ops[i]? = some o) (h : Steady P ops J o v a) (hJ : J w) (hK : K (a.put o.dst v) w) : wpOpIn F n P ops Q i K a w := by
  unfold Go.wpOpIn
  simp only [hi]
  rcases h with ⟨hw, hv⟩ | ⟨hw, rfl⟩
  · simp only [hw, if_true, Oper.wpIn, hro, Oper.semAt_none, hv w hJ, Oper.uponIn]; exact ⟨fun f _ => hF f, hK⟩
  · simp only [hw, Bool.false_eq_true, if_false]; exact ⟨fun f _ => hF f, hK⟩

theorem wpOpIn_ahead (hF : ∀ f, F.fn f) (hro : F.round = none) {Y : Act → Prop} {j : Nat} {oi oj : Oper} {v : Value} (hj : ops[j]? = some oj) (hap : oi.apart ops oj = true) (hsj : ∀ cs b, oj.op ≠ .select cs b)
    (hQ : ∀ c a w, Q (.panic c) (a.put oi.dst v) w → Q (.panic c) a w) (hY : ∀ a u, Y a → Y (a.put oj.dst u)) (hD : ∀ (a : Act) d, Y a → Y { a with defers := d :: a.defers })
    {K : Act → World → Prop} {a : Act} {w : World} (hy : Y a) (h : wpOpIn F n P ops Q j K (a.put oi.dst v) w) :
    wpOpIn F n P ops Q j (fun a' w' => Y a' ∧ K (a'.put oi.dst v) w') a w := by
  obtain ⟨h1, h2, _⟩ := Oper.apart_spec hap
  have comm := fun (b : Act) (u : Value) => Act.put_comm b v u h2
  unfold Go.wpOpIn at *
  simp only [hj] at *
  rw [wanted_put oj a oi.dst v h1] at h
  by_cases hw : Region.wanted oj (yielded ops a.tmps) = true
  · simp only [hw, if_true] at h ⊢
    unfold Oper.wpIn at *
    refine ⟨fun f _ => hF f, ?_⟩
    have h := h.2
    rw [hro, Oper.semAt_none, execOp_put oj hsj a oi.dst v h1] at h
    rw [hro, Oper.semAt_none]
    generalize (execOp a.eval oj).run P w = r at *
    cases r with
    | ok x w' =>
      cases x <;> simp only [Oper.uponIn] at h ⊢
      case value u => exact ⟨hY a u hy, by rw [← comm a u]; exact h⟩
      case skip => exact ⟨hY a undef hy, by rw [← comm a undef]; exact h⟩
      case defer d => exact ⟨hY _ undef (hD a d hy), by rw [← comm _ undef, ← Act.put_defers]; exact h⟩
      case enter f args =>
        refine ⟨h.1, CallsIn.mono h.2 fun e w'' he => ?_⟩
        cases e with
        | returned u => exact ⟨hY a u hy, by rw [← comm a u]; exact he⟩
        | panicked c => exact hQ _ _ _ he
        | outgrown => exact he
      case row row args => exact ⟨h.1, RowsIn.mono h.2 fun u w'' he => ⟨hY a u hy, by rw [← comm a u]; exact he⟩⟩
      case round l f tmps assign body =>
        refine ⟨h.1, RoundIn.mono h.2 fun e w'' he => ?_⟩
        cases e with
        | returned u => exact ⟨hY a u hy, by rw [← comm a u]; exact he⟩
        | panicked c => exact hQ _ _ _ he
        | outgrown => exact he
    | halt x w' =>
      cases x <;> simp only [Oper.uponIn] at h ⊢
      case panic u => exact hQ _ _ _ h
  · simp only [hw] at h ⊢
    exact ⟨fun f _ => hF f, hY a undef hy, by rw [← comm a undef]; exact h.2⟩

theorem wpAnyK_first {J : World → Prop} (hF : ∀ f, F.fn f) (hro : F.round = none) {i : Nat} {oi : Oper} {v : Value} (hi : ops[i]? = some oi) (hsel : ∀ (j : Nat) (o : Oper) cs b, ops[j]? = some o → o.op ≠ .select cs b)
    (hQ : ∀ c a w, Q (.panic c) (a.put oi.dst v) w → Q (.panic c) a w) :
    ∀ (fuel : Nat) (listed : Array Bool) (a : Act) (w : World),
      (∀ j oj, ops[j]? = some oj → j ≠ i → listed.getD j true = false → (∀ e ∈ oj.after, Region.binds md e = true → e.on ≠ i) → oi.apart ops oj = true) →
      i ∈ Region.ready md ops listed → J w → Steady P ops J oi v a →
      wpAnyK F n P md ops Q J fuel (listed.setIfInBounds i true) (a.put oi.dst v) w → wpAnyK F n P md ops Q J (fuel + 1) listed a w := by
  intro fuel
  induction fuel with
  | zero =>
    intro listed a w _ hr hJ hy H
    refine ⟨fun h => (by rw [h] at hr; cases hr), fun j hj => ?_⟩
    by_cases hji : j = i
    · subst hji; exact hy.wpOpIn hF hro hi hJ ⟨hJ, H⟩
    · have := ready_mono hj hji
      rw [H.1] at this
      cases this
  | succ fuel ih =>
    intro listed a w hfree hr hJ hy H
    refine ⟨fun h => (by rw [h] at hr; cases hr), fun j hj => ?_⟩
    by_cases hji : j = i
    · subst hji; exact hy.wpOpIn hF hro hi hJ ⟨hJ, H⟩
    · have h1 := H.2 j (ready_mono hj hji)
      obtain ⟨hjun, oj, hoj, hall⟩ := mem_ready.1 hj
      have hnot : ∀ e ∈ oj.after, Region.binds md e = true → e.on ≠ i := fun e he hb heq => by
        have h1 := hall e he hb
        have h0 := (mem_ready.1 hr).1
        rw [heq] at h1
        rcases Nat.lt_or_ge i listed.size with h' | h'
        · simp [h'] at h0 h1; rw [h0] at h1; cases h1
        · simp [Array.getElem?_eq_none h'] at h1
      have hap := hfree j oj hoj hji hjun hnot
      have h3 := (Oper.apart_spec hap).2.2
      have h2 := wpOpIn_ahead hF hro (Y := Steady P ops J oi v) hoj hap (fun cs b => hsel j oj cs b hoj) hQ
        (fun b u hb => hb.of_same (execOp_put oi (fun cs b => hsel i oi cs b hi) b oj.dst u h3) (wanted_put oi b oj.dst u h3)) (fun b d hb => hb.of_same rfl rfl) hy h1
      have hfree' : ∀ k ok, ops[k]? = some ok → k ≠ i → (listed.setIfInBounds j true).getD k true = false →
          (∀ e ∈ ok.after, Region.binds md e = true → e.on ≠ i) → oi.apart ops ok = true := fun k ok hk hki hun hno => by
        refine hfree k ok hk hki ?_ hno
        by_cases hjk : j = k
        · subst hjk; exact hjun
        · rw [getD_set_ne true hjk] at hun; exact hun
      refine wpOpIn_mono (fun a' w' h4 => ⟨h4.2.1, ih (listed.setIfInBounds j true) a' w' hfree' (ready_mono hr (Ne.symm hji)) h4.2.1 h4.1 ?_⟩) h2
      rw [Array.setIfInBounds_comm _ _ hji]
      exact h4.2.2

theorem wpAnyK_stretch {I : World → Prop} (hF : ∀ f, F.fn f) (hro : F.round = none) (hs : Region.noSelect ops = true) (hQ : ∀ c (a : Act) d v w, Q (.panic c) (a.put (some d) v) w → Q (.panic c) a w) {fuel : Nat} {w : World} (hI : I w) :
    ∀ (is : List Nat) (listed : Array Bool) (a : Act), takeable md ops is listed = true →
      wpQuiet P ops I (fun a' => wpAnyK F n P md ops Q I fuel (listedBehind is listed) a' w) (is.filterMap fun i => ops[i]?) a → wpAnyK F n P md ops Q I (is.length + fuel) listed a w
  | [], listed, a, _, h => by simpa [wpQuiet, listedBehind] using h
  | i :: is, listed, a, ht, h => by
    simp only [takeable, Bool.and_eq_true] at ht
    obtain ⟨⟨⟨hr, hf⟩, hp⟩, ht'⟩ := ht
    cases ho : ops[i]? with
    | none => rw [ho] at hp; cases hp
    | some o =>
      rw [ho] at hp
      rw [List.filterMap_cons, ho] at h
      obtain ⟨v, hv, hK⟩ := steady_of_quiet hp h
      have := wpAnyK_first hF hro ho (Region.noSelect_spec hs) (fun c a w h => by cases hd : o.dst with | none => rw [hd] at h; exact h | some d => rw [hd] at h; exact hQ c a d v w h) (is.length + fuel) listed a w (Region.free_spec ho hf) (by simpa using hr) hI hv (wpAnyK_stretch hF hro hs hQ hI is _ _ ht' hK)
      rw [List.length_cons, Nat.add_right_comm]
      exact this

/-- A stretch of operations that read the same in every world of the class. -/
theorem stretchIn {I : World → Prop} (hF : ∀ f, F.fn f) (hro : F.round = none) (hs : Region.noSelect ops = true) (hQ : ∀ c (a : Act) d v w, Q (.panic c) (a.put (some d) v) w → Q (.panic c) a w) {fuel : Nat} {w : World} (hI : I w)
    (is : List Nat) {listed : Array Bool} {a : Act} (ht : takeable md ops is listed = true)
    (h : wpQuiet P ops (fun x => ∃ u : Mem I, x = u.w') (fun a' => wpAnyK F n P md ops Q I fuel (listedBehind is listed) a' w) (is.filterMap fun i => ops[i]?) a) : wpAnyK F n P md ops Q I (is.length + fuel) listed a w := by
  have e : (fun x => ∃ u : Mem I, x = u.w') = I := funext fun x => propext ⟨fun ⟨u, hu⟩ => hu ▸ u.h, fun hx => ⟨⟨x, hx⟩, rfl⟩⟩
  rw [e] at h
  exact wpAnyK_stretch hF hro hs hQ hI is listed a ht h

/-- An operation that writes, where nothing else is ready. -/
theorem writerIn {J : World → Prop} {i fuel : Nat} {o : Oper} {listed : Array Bool} {a : Act} {w : World} (ho : ops[i]? = some o) (hr : Region.ready md ops listed = [i]) (hw : Region.wanted o (yielded ops a.tmps) = true)
    (h : ∀ K : Act → World → Prop, (∀ a' w', J w' → wpAnyK F n P md ops Q J fuel (listed.setIfInBounds i true) a' w' → K a' w') → Oper.wpIn F n P o a w K Q) :
    wpAnyK F n P md ops Q J (fuel + 1) listed a w := by
  refine ⟨fun h0 => (by rw [hr] at h0; cases h0), fun j hj => ?_⟩
  rw [hr, List.mem_singleton] at hj
  subst hj
  unfold Go.wpOpIn
  simp only [ho]
  have h1 := h (fun a' w' => J w' ∧ wpAnyK F n P md ops Q J fuel (listed.setIfInBounds j true) a' w') (fun _ _ h1 h2 => ⟨h1, h2⟩)
  rw [if_pos hw]; exact h1

theorem doneIn {J : World → Prop} {fuel : Nat} {listed : Array Bool} {a : Act} {w : World} (hr : Region.ready md ops listed = []) (h : Q .normal a w) : wpAnyK F n P md ops Q J fuel listed a w := by
  cases fuel with
  | zero => exact ⟨hr, h⟩
  | succ n => exact ⟨fun _ => h, by rw [hr]; simp⟩

theorem region_startIn {id : Nat} {J : World → Prop} {a : Act} {w : World} (hm : P.follows .mixedOrders = true) (h : wpAnyK F n P .any ops Q J ops.size (Array.replicate ops.size false) a w.drew) : (Code.region id ops true).wpIn F n P Q a w :=
  wpIn_region_any hm (wpAnyK.any _ _ _ _ h)

theorem classIn {I J : World → Prop} (hIJ : ∀ w, I w → J w) {fuel : Nat} {listed : Array Bool} {a : Act} {w : World} (h : wpAnyK F n P md ops Q I fuel listed a w) : wpAnyK F n P md ops Q J fuel listed a w := wpAnyK.mono hIJ fuel listed a w h

/-- An iterator that writes memory of its own: it tells xs, each x in turn; a body may turn what lies from A on and lay ahead of the call. -/
def SeqB {α : Type} (F : Fence) (n : Nat) (P : Program) (g : Nat) (lb : Array Value) (encs : α → Array Value) (A : Nat) (xs : List α) (w : World) : Prop :=
  ∀ (l : Nat) (J : List α → World → Prop) (W : World), Below w.heap.size w W → (∀ s X Y, J s X → Below W.heap.size X Y → J s Y) →
    (∀ pre x W1, J pre W1 → W.heap.size ≤ W1.heap.size → (pre ++ [x]) <+: xs → YieldAt F (n - 1) P l (encs x) W1 fun e W' =>
      e = .returned (.bool true) ∧ J (pre ++ [x]) W' ∧ Only (fun k => A ≤ k ∧ k < W.heap.size) W1 W') →
    J [] W →
    CallsIn F n P g (#[.func (.yield l) #[] #[]] ++ lb) W fun e W' => (∃ v, e = .returned v) ∧ J xs W'

theorem Below.putObj {b l : Nat} (W : World) (o : Obj) (hl : b ≤ l) : Below b W (W.putObj l o) :=
  ⟨rfl, rfl, rfl, by simp, fun k hk => World.putObj_heap_other (by omega)⟩

theorem wpIn_rangeB {α : Type} {g : Operand} {ps : Array Tmp} {assign body : Code} {a : Act} {w : World}
    (hro : F.round = none) (h1 : 1 ≤ n) {gf : Nat} {lb : Array Value} (hg : a.eval g = .func (.func gf) #[] lb) (hFg : F.fn gf) (eg : ∀ args w, (callFunc gf args).run P w = .ok (.enter gf args) w)
    {encs : α → Array Value} {A : Nat} {xs : List α} {w0 : World} (hseq : SeqB F (n - 1) P gf lb encs A xs w0) (hA : A ≤ w.heap.size) (hb0 : Below w0.heap.size w0 w) (hps : ∀ x, (encs x).size = ps.size)
    (I : List α → World → Prop) (hI : ∀ s X Y, I s X → Below w.heap.size X Y → I s Y) (h0 : I [] w) (a₁ : Array Value → α → Array Value)
    (hassign : ∀ (l : Nat) (x : α) (W : World) (K : Act → World → Prop), K { tmps := a₁ a.tmps x, defers := [] } W →
      assign.wpIn (F.inRound l) (n - 1 - 1) P (Exit.then K (fun _ _ _ => False)) { tmps := (ps.zip (encs x)).foldl (fun t (p, v) => t.setIfInBounds p v) a.tmps, defers := [] } W)
    (hbody : ∀ (l : Nat) (pre : List α) (x : α) (W : World), I pre W → w.heap.size ≤ W.heap.size → (pre ++ [x]) <+: xs → body.wpIn (F.inRound l) (n - 1 - 1) P (fun e _ W' => e = .normal ∧ Only (fun k => A ≤ k ∧ k < w.heap.size) W W' ∧ I (pre ++ [x]) W') { tmps := a₁ a.tmps x, defers := [] } W)
    (hdone : ∀ (D : Nat) (W : World), w.heap.size ≤ D → I xs W → W.heap[D]? = some (.deferred (some [])) → Q .normal { a with defers := { target := .collected D, args := #[] } :: a.defers } W) :
    (Code.rangeFunc g ps assign body).wpIn F n P Q a w := by
  refine wpIn_rangeFunc ?_
  intro fn hfn
  rw [hro]
  obtain ⟨rec, hrec⟩ : ∃ rec : LoopState → Option Code → Loop, rec = fun st pe => { state := st, pending := pe, fn, tmps := a.tmps, params := ps, assign, body, defers := w.heap.size } := ⟨_, rfl⟩
  obtain ⟨W1, hW1⟩ : ∃ W1, (w.alloc (.deferred (some []))).alloc (.loop (rec .ready none)) = W1 := ⟨_, rfl⟩
  have hs1 : W1.heap.size = w.heap.size + 2 := by rw [← hW1]; simp
  have hL1 : W1.heap[w.heap.size + 1]? = some (.loop (rec .ready none)) := by
    rw [← hW1]; have := World.alloc_heap_new (w.alloc (.deferred (some []))) (.loop (rec .ready none)); rwa [World.size_alloc] at this
  have hK1 : W1.heap[w.heap.size]? = some (.deferred (some [])) := by
    rw [← hW1]; exact (Below.heap_alloc _ _ _ (by simp)).trans (World.alloc_heap_new w _)
  have hbw : Below w.heap.size w W1 := by rw [← hW1]; exact ((Below.refl _ w).alloc (Nat.le_refl _) _).alloc (by simp) _
  have hI1 : I [] W1 := hI _ _ _ h0 hbw
  have hb1 : Below w0.heap.size w0 W1 := hb0.trans (hbw.mono hb0.size)
  refine ⟨w.heap.size + 1, [{ target := .collected w.heap.size, args := #[] }], W1, { target := .fn (.func gf) lb, args := #[.func (.yield (w.heap.size + 1)) #[] #[]] }, W1, gf,
    #[.func (.yield (w.heap.size + 1)) #[] #[]] ++ lb, W1, ?_, ?_, ?_, ?_, fun _ => h1, ?_⟩
  · rw [← hW1, hrec]; exact run_enterLoop_outer _ _ _ _ _
  · simp only [resolve, hg]
    simp [go_sem]
  · intro f' hf'; simp [Target.leads] at hf'; subst hf'; exact hFg
  · simp [invoke, go_sem, eg]
  · refine (hseq (w.heap.size + 1)
      (fun pre W => I pre W ∧ W.heap[w.heap.size + 1]? = some (.loop (rec .ready none)) ∧ W.heap[w.heap.size]? = some (.deferred (some [])))
      W1 hb1
      (fun s X Y hs hb => ⟨hI s X Y hs.1 (hb.mono (by omega)), (hb.block _ (by omega)).trans hs.2.1, (hb.block _ (by omega)).trans hs.2.2⟩)
      ?_ ⟨hI1, hL1, hK1⟩).mono ?_
    · rintro pre x W ⟨hi, hl, hk⟩ hsz hpre
      have hlt : w.heap.size + 1 < W.heap.size := (Array.getElem?_eq_some_iff.1 hl).1
      have hy := run_yield (P := P) (args := encs x) hl (by rw [hrec]; exact hps x)
      rw [hrec] at hy
      refine ⟨fn, _, assign, body, hy, roundIn_of_wpIn hfn (hassign _ x W _ ⟨_, run_beginRound hl (by rw [hrec]), ?_⟩)⟩
      have hl2 : (W.putObj (w.heap.size + 1) (.loop { rec .ready none with state := .busy })).heap[w.heap.size + 1]? = some (.loop { rec .ready none with state := .busy }) := World.putObj_heap_same hlt
      have hk2 : (W.putObj (w.heap.size + 1) (.loop { rec .ready none with state := .busy })).heap[w.heap.size]? = some (.deferred (some [])) := (World.putObj_heap_other (by omega)).trans hk
      have z2 : (W.putObj (w.heap.size + 1) (.loop { rec .ready none with state := .busy })).heap.size = W.heap.size := by simp
      refine wpIn_mono (hbody _ pre x _ (hI _ _ _ hi (Below.putObj W _ (by omega))) (by rw [z2]; omega) hpre) ?_
      rintro e a3 W3 ⟨rfl, ho3, hi3⟩
      have hl3 : W3.heap[w.heap.size + 1]? = some (.loop { rec .ready none with state := .busy }) := (ho3.block _ (by rw [z2]; omega) (by omega)).trans hl2
      have hk3 : W3.heap[w.heap.size]? = some (.deferred (some [])) := (ho3.block _ (by rw [z2]; omega) (by omega)).trans hk2
      have hr := run_endRound (P := P) none hl3
      refine ⟨_, _, hr, rfl, ⟨hI _ _ _ hi3 (Below.putObj W3 _ (by omega)), ?_, (World.putObj_heap_other (by omega)).trans hk3⟩, ?_⟩
      · rw [World.putObj_heap_same (Array.getElem?_eq_some_iff.1 hl3).1, hrec]; rfl
      · refine ⟨ho3.os, ho3.tape, ho3.output, ?_, fun k hk hn => ?_⟩
        · have := ho3.size; rw [z2] at this; simpa using this
        · rw [World.putObj_heap_other (by omega), ho3.block k (by rw [z2]; exact hk) (by omega), World.putObj_heap_other (by omega)]
    · rintro e W2 ⟨⟨v, rfl⟩, hi, hl, hk⟩
      exact ⟨none, _, by have := run_endLoop (P := P) hl (by rw [hrec]; simp); rw [hrec] at this; exact this, hdone _ _ (Nat.le_refl _) (hI _ _ _ hi (Below.putObj W2 _ (by omega))) ((World.putObj_heap_other (by omega)).trans hk)⟩
end
end Go.Proofs.Ytafamfjgehnddaa
