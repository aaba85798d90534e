/- The range over an iterator that writes memory of its own, whose body may leave the function. (Of any program.) -/
import Derived.Test.YtafamfjgehnddaaPhaseIn
namespace Go.Proofs.Ytafamfjgehnddaa
open Go Go.RowKit

section
variable {F : Fence} {n : Nat} {P : Program} {Q : Exit → Act → World → Prop}

/-- As SeqB; the body may say that it is enough. -/
def SeqC {α : Type} (F : Fence) (n : Nat) (P : Program) (g : Nat) (lb : Array Value) (encs : α → Array Value) (A : Nat) (xs : List α) (w : World) : Prop :=
  ∀ (l : Nat) (J : List α → World → Prop) (Jx : World → Prop) (W : World), Below w.heap.size w W → (∀ s X Y, J s X → Below W.heap.size X Y → J s Y) → (∀ X Y, Jx X → Below W.heap.size X Y → Jx Y) →
    (∀ pre x W1, J pre W1 → W.heap.size ≤ W1.heap.size → (pre ++ [x]) <+: xs → YieldAt F (n - 1) P l (encs x) W1 fun e W' =>
      Only (fun k => A ≤ k ∧ k < W.heap.size) W1 W' ∧ ((e = .returned (.bool true) ∧ J (pre ++ [x]) W') ∨ (e = .returned (.bool false) ∧ Jx W'))) →
    J [] W →
    CallsIn F n P g (#[.func (.yield l) #[] #[]] ++ lb) W fun e W' => (∃ v, e = .returned v) ∧ (J xs W' ∨ Jx W')

/-- How a body may be left. -/
def postC (I St : World → Prop) : Exit → World → Prop
  | .normal, W' => I W'
  | .ret, W' => St W'
  | _, _ => False

theorem wpIn_rangeC {α : Type} {g : Operand} {s t : Tmp} {assign body : Code} {a : Act} {w : World}
    (hro : F.round = none) (h1 : 1 ≤ n) {gf : Nat} {lb : Array Value} (hg : a.eval g = .func (.func gf) #[] lb) (hFg : F.fn gf) (eg : ∀ args w, (callFunc gf args).run P w = .ok (.enter gf args) w)
    (cs : α → Array Value) (T : TypeId) {A : Nat} {xs : List α} {w0 : World} (hseq : SeqC F (n - 1) P gf lb (fun x => #[.agg (cs x)]) A xs w0) (hb0 : Below w0.heap.size w0 w) (hA : A ≤ w.heap.size)
    (I : List α → World → Prop) (St : World → Prop) (hI : ∀ s X Y, I s X → Below w.heap.size X Y → I s Y) (hSt : ∀ X Y, St X → Below w.heap.size X Y → St Y) (h0 : I [] w)
    (hassign : ∀ (l : Nat) (x : α) (W : World) (K : Act → World → Prop), K { tmps := (a.tmps.setIfInBounds s (.agg (cs x))).setIfInBounds t (.pointer (some ⟨W.heap.size, 0, none⟩)), defers := [] } (W.alloc (.cells (cs x) T)) →
      assign.wpIn (F.inRound l) (n - 1 - 1) P (Exit.then K (fun _ _ _ => False)) { tmps := a.tmps.setIfInBounds s (.agg (cs x)), defers := [] } W)
    (hbody : ∀ (l : Nat) (pre : List α) (x : α) (b : Nat) (V : World), w.heap.size + 2 ≤ b → b < V.heap.size → I pre V → V.heap[b]? = some (.cells (cs x) T (0, 0)) → (pre ++ [x]) <+: xs →
      body.wpIn (F.inRound l) (n - 1 - 1) P (fun e _ W' => Only (fun k => A ≤ k ∧ k < w.heap.size) V W' ∧ postC (I (pre ++ [x])) St e W') { tmps := (a.tmps.setIfInBounds s (.agg (cs x))).setIfInBounds t (.pointer (some ⟨b, 0, none⟩)), defers := [] } V)
    (hdone : ∀ (D : Nat) (W : World), w.heap.size ≤ D → I xs W → W.heap[D]? = some (.deferred (some [])) → Q .normal { a with defers := { target := .collected D, args := #[] } :: a.defers } W)
    (hstop : ∀ (D : Nat) (W : World), w.heap.size ≤ D → St W → W.heap[D]? = some (.deferred (some [])) → Code.ret.wpIn F n P Q { a with defers := { target := .collected D, args := #[] } :: a.defers } W) :
    (Code.rangeFunc g #[s] assign body).wpIn F n P Q a w := by
  refine wpIn_rangeFunc ?_
  intro fn hfn
  rw [hro]
  obtain ⟨rec, hrec⟩ : ∃ rec : LoopState → Option Code → Loop, rec = fun st pe => { state := st, pending := pe, fn, tmps := a.tmps, params := #[s], assign, body, defers := w.heap.size } := ⟨_, rfl⟩
  obtain ⟨W1, hW1⟩ : ∃ W1, (w.alloc (.deferred (some []))).alloc (.loop (rec .ready none)) = W1 := ⟨_, rfl⟩
  have hs1 : W1.heap.size = w.heap.size + 2 := by rw [← hW1]; simp
  have hL1 : W1.heap[w.heap.size + 1]? = some (.loop (rec .ready none)) := by
    rw [← hW1]; have := World.alloc_heap_new (w.alloc (.deferred (some []))) (.loop (rec .ready none)); rwa [World.size_alloc] at this
  have hK1 : W1.heap[w.heap.size]? = some (.deferred (some [])) := by
    rw [← hW1]; exact (Below.heap_alloc _ _ _ (by simp)).trans (World.alloc_heap_new w _)
  have hbw : Below w.heap.size w W1 := by rw [← hW1]; exact ((Below.refl _ w).alloc (Nat.le_refl _) _).alloc (by simp) _
  have hI1 : I [] W1 := hI _ _ _ h0 hbw
  have hb1 : Below w0.heap.size w0 W1 := hb0.trans (hbw.mono hb0.size)
  refine ⟨w.heap.size + 1, [{ target := .collected w.heap.size, args := #[] }], W1, { target := .fn (.func gf) lb, args := #[.func (.yield (w.heap.size + 1)) #[] #[]] }, W1, gf,
    #[.func (.yield (w.heap.size + 1)) #[] #[]] ++ lb, W1, ?_, ?_, ?_, ?_, fun _ => h1, ?_⟩
  · rw [← hW1, hrec]; exact run_enterLoop_outer _ _ _ _ _
  · simp only [resolve, hg]
    simp [go_sem]
  · intro f' hf'; simp [Target.leads] at hf'; subst hf'; exact hFg
  · simp [invoke, go_sem, eg]
  · refine (hseq (w.heap.size + 1)
      (fun pre W => I pre W ∧ W.heap[w.heap.size + 1]? = some (.loop (rec .ready none)) ∧ W.heap[w.heap.size]? = some (.deferred (some [])))
      (fun W => St W ∧ W.heap[w.heap.size + 1]? = some (.loop (rec .done (some .ret))) ∧ W.heap[w.heap.size]? = some (.deferred (some [])))
      W1 hb1
      (fun s X Y hs hb => ⟨hI s X Y hs.1 (hb.mono (by omega)), (hb.block _ (by omega)).trans hs.2.1, (hb.block _ (by omega)).trans hs.2.2⟩)
      (fun X Y hs hb => ⟨hSt X Y hs.1 (hb.mono (by omega)), (hb.block _ (by omega)).trans hs.2.1, (hb.block _ (by omega)).trans hs.2.2⟩)
      ?_ ⟨hI1, hL1, hK1⟩).mono ?_
    · rintro pre x W ⟨hi, hl, hk⟩ hsz hpre
      have hlt : w.heap.size + 1 < W.heap.size := (Array.getElem?_eq_some_iff.1 hl).1
      have hy := run_yield (P := P) (args := #[.agg (cs x)]) hl (by rw [hrec]; rfl)
      rw [hrec] at hy
      have hba : Below W.heap.size W (W.alloc (.cells (cs x) T)) := (Below.refl _ W).alloc (Nat.le_refl _) _
      have hgl : (W.alloc (.cells (cs x) T)).heap[w.heap.size + 1]? = some (.loop (rec .ready none)) := (hba.block _ hlt).trans hl
      have hgk : (W.alloc (.cells (cs x) T)).heap[w.heap.size]? = some (.deferred (some [])) := (hba.block _ (by omega)).trans hk
      have hgb : (W.alloc (.cells (cs x) T)).heap[W.heap.size]? = some (.cells (cs x) T (0, 0)) := World.alloc_heap_new W _
      refine ⟨fn, a.tmps.setIfInBounds s (.agg (cs x)), assign, body, by simpa using hy, roundIn_of_wpIn hfn (hassign _ x W _ ⟨_, run_beginRound hgl (by rw [hrec]), ?_⟩)⟩
      obtain ⟨V, hV⟩ : ∃ V, (W.alloc (.cells (cs x) T)).putObj (w.heap.size + 1) (.loop { rec .ready none with state := .busy }) = V := ⟨_, rfl⟩
      rw [hV]
      have hl2 : V.heap[w.heap.size + 1]? = some (.loop { rec .ready none with state := .busy }) := by rw [← hV]; exact World.putObj_heap_same (by simp; omega)
      have hk2 : V.heap[w.heap.size]? = some (.deferred (some [])) := by rw [← hV]; exact (World.putObj_heap_other (by omega)).trans hgk
      have hb2 : V.heap[W.heap.size]? = some (.cells (cs x) T (0, 0)) := by rw [← hV]; exact (World.putObj_heap_other (by omega)).trans hgb
      have z2 : V.heap.size = W.heap.size + 1 := by rw [← hV]; simp
      have hWV : Below w.heap.size W V := by rw [← hV]; exact (hba.mono (by omega)).trans (Below.putObj _ _ (by omega))
      have hWV' : ∀ k, k < W.heap.size → k ≠ w.heap.size + 1 → V.heap[k]? = W.heap[k]? := fun k hk hn => by rw [← hV]; exact (World.putObj_heap_other hn).trans (hba.block k hk)
      refine wpIn_mono (hbody _ pre x W.heap.size V (by omega) (by omega) (hI _ _ _ hi hWV) hb2 hpre) ?_
      rintro e a3 W3 ⟨ho3, hi3⟩
      have hl3 : W3.heap[w.heap.size + 1]? = some (.loop { rec .ready none with state := .busy }) := (ho3.block _ (by omega) (by omega)).trans hl2
      have hk3 : W3.heap[w.heap.size]? = some (.deferred (some [])) := (ho3.block _ (by omega) (by omega)).trans hk2
      have hlt3 := (Array.getElem?_eq_some_iff.1 hl3).1
      cases e with
      | normal =>
        have hr := run_endRound (P := P) none hl3
        refine ⟨_, _, hr, ?_, .inl ⟨rfl, ⟨hI _ _ _ hi3 (Below.putObj W3 _ (by omega)), ?_, (World.putObj_heap_other (by omega)).trans hk3⟩⟩⟩
        · refine ⟨ho3.os.trans hWV.os, ho3.tape.trans hWV.tape, ho3.output.trans hWV.output, ?_, fun k hk hn => ?_⟩
          · have := ho3.size; simp; omega
          · by_cases hkk : k = w.heap.size + 1
            · subst hkk; rw [World.putObj_heap_same hlt3, hl, hrec]; rfl
            · rw [World.putObj_heap_other hkk, ho3.block k (by omega) (by omega), hWV' k hk hkk]
        · rw [World.putObj_heap_same hlt3, hrec]; rfl
      | ret =>
        have hr := run_endRound (P := P) (some .ret) hl3
        refine ⟨_, _, hr, ?_, .inr ⟨rfl, hSt _ _ hi3 (Below.putObj W3 _ (by omega)), ?_, (World.putObj_heap_other (by omega)).trans hk3⟩⟩
        · refine ⟨ho3.os.trans hWV.os, ho3.tape.trans hWV.tape, ho3.output.trans hWV.output, ?_, fun k hk hn => ?_⟩
          · have := ho3.size; simp; omega
          · by_cases hkk : k = w.heap.size + 1
            · exact absurd ⟨by omega, by omega⟩ hn
            · rw [World.putObj_heap_other hkk, ho3.block k (by omega) (by omega), hWV' k hk hkk]
        · rw [World.putObj_heap_same hlt3, hrec]; rfl
      | exit id => exact hi3.elim
      | goto t => exact hi3.elim
      | panic ch => exact hi3.elim
      | outgrown => exact hi3.elim
    · rintro e W2 ⟨⟨v, rfl⟩, ⟨hi, hl, hk⟩ | ⟨hi, hl, hk⟩⟩
      · exact ⟨none, _, by have := run_endLoop (P := P) hl (by rw [hrec]; simp); rw [hrec] at this; exact this, hdone _ _ (Nat.le_refl _) (hI _ _ _ hi (Below.putObj W2 _ (by omega))) ((World.putObj_heap_other (by omega)).trans hk)⟩
      · exact ⟨some .ret, _, by have := run_endLoop (P := P) hl (by rw [hrec]; simp); rw [hrec] at this; exact this, hstop _ _ (Nat.le_refl _) (hSt _ _ hi (Below.putObj W2 _ (by omega))) ((World.putObj_heap_other (by omega)).trans hk)⟩
end
end Go.Proofs.Ytafamfjgehnddaa
