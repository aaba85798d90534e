/- The range over an iterator, both of which have memory of their own that grows. (Of any program.) -/
import Derived.Test.YtafamfjgehnddaaPhaseC
import Derived.Test.YtafamfjgehnddaaTreSep
namespace Go.Proofs.Ytafamfjgehnddaa
open Go Go.RowKit

section
variable {F : Fence} {n : Nat} {P : Program} {Q : Exit → Act → World → Prop}

/-- An iterator that tells xs, each x in turn, and turns nothing that is not its own; a body, whose own blocks may grow, turns no others. -/
def SeqR {α : Type} (F : Fence) (n : Nat) (P : Program) (g : Nat) (lb : Array Value) (encs : α → Array Value) (xs : List α) (w : World) : Prop :=
  ∀ (l : Nat) (J : List α → Res) (Jx : Res) (W : World) (G0 : Nat → Prop), Below w.heap.size w W → (∀ s, Loc (J s)) → Loc Jx →
    (∀ pre x W1 G1, J pre W1 G1 → (pre ++ [x]) <+: xs → YieldAt F (n - 1) P l (encs x) W1 fun e W' =>
      ∃ G2, Only G1 W1 W' ∧ (∀ y, G2 y → G1 y ∨ W1.heap.size ≤ y) ∧ ((e = .returned (.bool true) ∧ J (pre ++ [x]) W' G2) ∨ (e = .returned (.bool false) ∧ Jx W' G2))) →
    J [] W G0 →
    CallsIn F n P g (#[.func (.yield l) #[] #[]] ++ lb) W fun e W' => (∃ v, e = .returned v) ∧ ∃ G2, Only G0 W W' ∧ (∀ y, G2 y → G0 y ∨ W.heap.size ≤ y) ∧ (J xs W' G2 ∨ Jx W' G2)

/-- How a body may be left. -/
def postR (I St : Res) : Exit → World → (Nat → Prop) → Prop
  | .normal, W', G => I W' G
  | .ret, W', G => St W' G
  | _, _, _ => False

/-- How a body ends: its blocks may grow. -/
def endR (G1 : Nat → Prop) (V : World) (I St : Res) (e : Exit) (W' : World) : Prop := ∃ G2, Only G1 V W' ∧ (∀ y, G2 y → G1 y ∨ V.heap.size ≤ y) ∧ postR I St e W' G2
theorem endR.mk {G1 : Nat → Prop} {V : World} {I St : Res} {e : Exit} {W' : World} (G2 : Nat → Prop) (h1 : Only G1 V W') (h2 : ∀ y, G2 y → G1 y ∨ V.heap.size ≤ y) (h3 : postR I St e W' G2) : endR G1 V I St e W' := ⟨G2, h1, h2, h3⟩

def BK (l D : Nat) (r : Loop) : Res := fun W G => W.heap[l]? = some (.loop r) ∧ W.heap[D]? = some (.deferred (some [])) ∧ ∀ x, G x ↔ x = l ∨ x = D
theorem Loc.bk {l D : Nat} {r : Loop} : Loc (BK l D r) :=
  ⟨fun ⟨h1, h2, h3⟩ o hn => ⟨(o.block l (Array.getElem?_eq_some_iff.1 h1).1 (hn l ((h3 l).2 (.inl rfl)))).trans h1, (o.block D (Array.getElem?_eq_some_iff.1 h2).1 (hn D ((h3 D).2 (.inr rfl)))).trans h2, h3⟩,
   fun ⟨h1, h2, h3⟩ hx => by rcases (h3 _).1 hx with rfl | rfl; exact (Array.getElem?_eq_some_iff.1 h1).1; exact (Array.getElem?_eq_some_iff.1 h2).1⟩

theorem Only.putObj {M : Nat → Prop} (W : World) {l : Nat} (o : Obj) (hl : M l) : Only M W (W.putObj l o) :=
  ⟨rfl, rfl, rfl, by simp, fun k _ hn => World.putObj_heap_other (fun e => hn (e ▸ hl))⟩

theorem wpIn_rangeR {α : Type} {g : Operand} {s t : Tmp} {assign body : Code} {a : Act} {w : World}
    (hro : F.round = none) (h1 : 1 ≤ n) {gf : Nat} {lb : Array Value} (hg : a.eval g = .func (.func gf) #[] lb) (hFg : F.fn gf) (eg : ∀ args w, (callFunc gf args).run P w = .ok (.enter gf args) w)
    (cs : α → Array Value) (T : TypeId) {xs : List α} {w0 : World} (hseq : SeqR F (n - 1) P gf lb (fun x => #[.agg (cs x)]) xs w0) (hb0 : Below w0.heap.size w0 w)
    (I : List α → Res) (St : Res) (hI : ∀ s, Loc (I s)) (hSt : Loc St) {G0 : Nat → Prop} (h0 : I [] w G0)
    (hassign : ∀ (l : Nat) (x : α) (W : World) (K : Act → World → Prop), K { tmps := (a.tmps.setIfInBounds s (.agg (cs x))).setIfInBounds t (.pointer (some ⟨W.heap.size, 0, none⟩)), defers := [] } (W.alloc (.cells (cs x) T)) →
      assign.wpIn (F.inRound l) (n - 1 - 1) P (Exit.then K (fun _ _ _ => False)) { tmps := a.tmps.setIfInBounds s (.agg (cs x)), defers := [] } W)
    (hbody : ∀ (l : Nat) (pre : List α) (x : α) (b : Nat) (V : World) (G1 : Nat → Prop), w.heap.size ≤ b → b < V.heap.size → ¬ G1 b → I pre V G1 → V.heap[b]? = some (.cells (cs x) T (0, 0)) → (pre ++ [x]) <+: xs →
      body.wpIn (F.inRound l) (n - 1 - 1) P (fun e _ W' => endR G1 V (I (pre ++ [x])) St e W') { tmps := (a.tmps.setIfInBounds s (.agg (cs x))).setIfInBounds t (.pointer (some ⟨b, 0, none⟩)), defers := [] } V)
    (hdone : ∀ (D : Nat) (W : World) (G : Nat → Prop), w.heap.size ≤ D → ¬ G D → I xs W G → Only G0 w W → (∀ y, G y → G0 y ∨ w.heap.size ≤ y) → W.heap[D]? = some (.deferred (some [])) → Q .normal { a with defers := { target := .collected D, args := #[] } :: a.defers } W)
    (hstop : ∀ (D : Nat) (W : World) (G : Nat → Prop), w.heap.size ≤ D → ¬ G D → St W G → Only G0 w W → (∀ y, G y → G0 y ∨ w.heap.size ≤ y) → W.heap[D]? = some (.deferred (some [])) → Code.ret.wpIn F n P Q { a with defers := { target := .collected D, args := #[] } :: a.defers } W) :
    (Code.rangeFunc g #[s] assign body).wpIn F n P Q a w := by
  refine wpIn_rangeFunc ?_
  intro fn hfn
  rw [hro]
  obtain ⟨rec, hrec⟩ : ∃ rec : LoopState → Option Code → Loop, rec = fun st pe => { state := st, pending := pe, fn, tmps := a.tmps, params := #[s], assign, body, defers := w.heap.size } := ⟨_, rfl⟩
  obtain ⟨W1, hW1⟩ : ∃ W1, (w.alloc (.deferred (some []))).alloc (.loop (rec .ready none)) = W1 := ⟨_, rfl⟩
  have hs1 : W1.heap.size = w.heap.size + 2 := by rw [← hW1]; simp
  have hL1 : W1.heap[w.heap.size + 1]? = some (.loop (rec .ready none)) := by
    rw [← hW1]; have := World.alloc_heap_new (w.alloc (.deferred (some []))) (.loop (rec .ready none)); rwa [World.size_alloc] at this
  have hK1 : W1.heap[w.heap.size]? = some (.deferred (some [])) := by
    rw [← hW1]; exact (Below.heap_alloc _ _ _ (by simp)).trans (World.alloc_heap_new w _)
  have hbw : Below w.heap.size w W1 := by rw [← hW1]; exact ((Below.refl _ w).alloc (Nat.le_refl _) _).alloc (by simp) _
  have hI1 : I [] W1 G0 := (hI []).kept h0 (Below.only hbw (fun _ => False)) (fun _ _ h => h)
  have hG0 : ∀ x, G0 x → x < w.heap.size := fun x hx => (hI []).lt h0 hx
  have hb1 : Below w0.heap.size w0 W1 := hb0.trans (hbw.mono hb0.size)
  refine ⟨w.heap.size + 1, [{ target := .collected w.heap.size, args := #[] }], W1, { target := .fn (.func gf) lb, args := #[.func (.yield (w.heap.size + 1)) #[] #[]] }, W1, gf,
    #[.func (.yield (w.heap.size + 1)) #[] #[]] ++ lb, W1, ?_, ?_, ?_, ?_, fun _ => h1, ?_⟩
  · rw [← hW1, hrec]; exact run_enterLoop_outer _ _ _ _ _
  · simp only [resolve, hg]
    simp [go_sem]
  · intro f' hf'; simp [Target.leads] at hf'; subst hf'; exact hFg
  · simp [invoke, go_sem, eg]
  · refine (hseq (w.heap.size + 1)
      (fun pre => Sep (I pre) (BK (w.heap.size + 1) w.heap.size (rec .ready none)))
      (Sep St (BK (w.heap.size + 1) w.heap.size (rec .done (some .ret))))
      W1 (fun x => G0 x ∨ (x = w.heap.size + 1 ∨ x = w.heap.size)) hb1 (fun s => (hI s).sep Loc.bk) (hSt.sep Loc.bk) ?_
      ⟨G0, fun x => x = w.heap.size + 1 ∨ x = w.heap.size, hI1, ⟨hL1, hK1, fun _ => Iff.rfl⟩, fun x hx h => by have := hG0 x hx; omega, fun _ => Iff.rfl⟩).mono ?_
    · rintro pre x W GG ⟨G1, GB, hi, ⟨hl, hk, hgb⟩, hdj, hgg⟩ hpre
      have hlt : w.heap.size + 1 < W.heap.size := (Array.getElem?_eq_some_iff.1 hl).1
      have hy := run_yield (P := P) (args := #[.agg (cs x)]) hl (by rw [hrec]; rfl)
      rw [hrec] at hy
      have hba : Below W.heap.size W (W.alloc (.cells (cs x) T)) := (Below.refl _ W).alloc (Nat.le_refl _) _
      have hgl : (W.alloc (.cells (cs x) T)).heap[w.heap.size + 1]? = some (.loop (rec .ready none)) := (hba.block _ hlt).trans hl
      have hgk : (W.alloc (.cells (cs x) T)).heap[w.heap.size]? = some (.deferred (some [])) := (hba.block _ (by omega)).trans hk
      have hgB : (W.alloc (.cells (cs x) T)).heap[W.heap.size]? = some (.cells (cs x) T (0, 0)) := World.alloc_heap_new W _
      refine ⟨fn, a.tmps.setIfInBounds s (.agg (cs x)), assign, body, by simpa using hy, roundIn_of_wpIn hfn (hassign _ x W _ ⟨_, run_beginRound hgl (by rw [hrec]), ?_⟩)⟩
      obtain ⟨V, hV⟩ : ∃ V, (W.alloc (.cells (cs x) T)).putObj (w.heap.size + 1) (.loop { rec .ready none with state := .busy }) = V := ⟨_, rfl⟩
      rw [hV]
      have hl2 : V.heap[w.heap.size + 1]? = some (.loop { rec .ready none with state := .busy }) := by rw [← hV]; exact World.putObj_heap_same (by simp; omega)
      have hk2 : V.heap[w.heap.size]? = some (.deferred (some [])) := by rw [← hV]; exact (World.putObj_heap_other (by omega)).trans hgk
      have hb2 : V.heap[W.heap.size]? = some (.cells (cs x) T (0, 0)) := by rw [← hV]; exact (World.putObj_heap_other (by omega)).trans hgB
      have z2 : V.heap.size = W.heap.size + 1 := by rw [← hV]; simp
      have nl : ¬ G1 (w.heap.size + 1) := fun h => hdj _ h ((hgb _).2 (.inl rfl))
      have nd : ¬ G1 w.heap.size := fun h => hdj _ h ((hgb _).2 (.inr rfl))
      have hWV : Only (fun k => k = w.heap.size + 1) W V := by rw [← hV]; exact (Below.only hba _).trans (Only.putObj _ _ rfl)
      have hiV : I pre V G1 := (hI pre).kept hi hWV (fun y hy e => nl (e ▸ hy))
      refine wpIn_mono (hbody _ pre x W.heap.size V G1 (by omega) (by omega) (fun h => by have := (hI pre).lt hi h; omega) hiV hb2 hpre) ?_
      rintro e a3 W3 ⟨G2, ho3, hg3, hi3⟩
      have hl3 : W3.heap[w.heap.size + 1]? = some (.loop { rec .ready none with state := .busy }) := (ho3.block _ (by omega) nl).trans hl2
      have hk3 : W3.heap[w.heap.size]? = some (.deferred (some [])) := (ho3.block _ (by omega) nd).trans hk2
      have hlt3 := (Array.getElem?_eq_some_iff.1 hl3).1
      have nl2 : ¬ G2 (w.heap.size + 1) := fun h => by rcases hg3 _ h with q | q; exact nl q; omega
      have nd2 : ¬ G2 w.heap.size := fun h => by rcases hg3 _ h with q | q; exact nd q; omega
      have hO : ∀ o, Only GG W (W3.putObj (w.heap.size + 1) o) := fun o =>
        ((hWV.mono (fun k _ e => (hgg k).2 (.inr ((hgb k).2 (.inl e))))).thenNew (ho3.mono (fun k _ h => (hgg k).2 (.inl h))) (fun _ _ h => h)).trans (Only.putObj _ _ ((hgg _).2 (.inr ((hgb _).2 (.inl rfl)))))
      have hnew : ∀ y, (G2 y ∨ GB y) → GG y ∨ W.heap.size ≤ y := fun y h => by
        rcases h with h | h
        · rcases hg3 y h with q | q
          · exact .inl ((hgg y).2 (.inl q))
          · exact .inr (by omega)
        · exact .inl ((hgg y).2 (.inr h))
      have hkp : ∀ o, Only (fun k => k = w.heap.size + 1) W3 (W3.putObj (w.heap.size + 1) o) := fun o => Only.putObj _ _ rfl
      cases e with
      | normal =>
        have hr := run_endRound (P := P) none hl3
        refine ⟨_, _, hr, fun y => G2 y ∨ GB y, hO _, hnew, .inl ⟨rfl, G2, GB, (hI _).kept hi3 (hkp _) (fun y hy e => nl2 (e ▸ hy)), ⟨?_, (World.putObj_heap_other (by omega)).trans hk3, hgb⟩, fun y hy h => ?_, fun _ => Iff.rfl⟩⟩
        · rw [World.putObj_heap_same hlt3, hrec]; rfl
        · rcases (hgb y).1 h with rfl | rfl
          · exact nl2 hy
          · exact nd2 hy
      | ret =>
        have hr := run_endRound (P := P) (some .ret) hl3
        refine ⟨_, _, hr, fun y => G2 y ∨ GB y, hO _, hnew, .inr ⟨rfl, G2, GB, hSt.kept hi3 (hkp _) (fun y hy e => nl2 (e ▸ hy)), ⟨?_, (World.putObj_heap_other (by omega)).trans hk3, hgb⟩, fun y hy h => ?_, fun _ => Iff.rfl⟩⟩
        · rw [World.putObj_heap_same hlt3, hrec]; rfl
        · rcases (hgb y).1 h with rfl | rfl
          · exact nl2 hy
          · exact nd2 hy
      | exit id => exact hi3.elim
      | goto t => exact hi3.elim
      | panic ch => exact hi3.elim
      | outgrown => exact hi3.elim
    · rintro e W2 ⟨⟨v, rfl⟩, GG, ho, hn, hh⟩
      have hOw : ∀ o, Only G0 w (W2.putObj (w.heap.size + 1) o) := fun o => by
        refine ⟨ho.os.trans hbw.os, ho.tape.trans hbw.tape, ho.output.trans hbw.output, by have := ho.size; simp; omega, fun k hk hng => ?_⟩
        rw [World.putObj_heap_other (by omega), ho.block k (by omega) (fun h => by rcases h with h | h; exact hng h; omega), hbw.block k hk]
      rcases hh with ⟨G1, GB, hi, ⟨hl, hk, hgb⟩, hdj, hgg⟩ | ⟨G1, GB, hi, ⟨hl, hk, hgb⟩, hdj, hgg⟩
      · have nl : ¬ G1 (w.heap.size + 1) := fun h => hdj _ h ((hgb _).2 (.inl rfl))
        have nd : ¬ G1 w.heap.size := fun h => hdj _ h ((hgb _).2 (.inr rfl))
        refine ⟨none, _, by have := run_endLoop (P := P) hl (by rw [hrec]; simp); rw [hrec] at this; exact this, hdone _ _ G1 (Nat.le_refl _) nd ((hI _).kept hi (Only.putObj (M := fun k => k = w.heap.size + 1) _ _ rfl) (fun y hy e => nl (e ▸ hy))) (hOw _) (fun y hy => ?_) ((World.putObj_heap_other (by omega)).trans hk)⟩
        rcases hn y ((hgg y).2 (.inl hy)) with (q | q) | q
        · exact .inl q
        · exact .inr (by omega)
        · exact .inr (by omega)
      · have nl : ¬ G1 (w.heap.size + 1) := fun h => hdj _ h ((hgb _).2 (.inl rfl))
        have nd : ¬ G1 w.heap.size := fun h => hdj _ h ((hgb _).2 (.inr rfl))
        refine ⟨some .ret, _, by have := run_endLoop (P := P) hl (by rw [hrec]; simp); rw [hrec] at this; exact this, hstop _ _ G1 (Nat.le_refl _) nd (hSt.kept hi (Only.putObj (M := fun k => k = w.heap.size + 1) _ _ rfl) (fun y hy e => nl (e ▸ hy))) (hOw _) (fun y hy => ?_) ((World.putObj_heap_other (by omega)).trans hk)⟩
        rcases hn y ((hgg y).2 (.inl hy)) with (q | q) | q
        · exact .inl q
        · exact .inr (by omega)
        · exact .inr (by omega)
/-- An end that is no panic. -/
def noPanic (Q : Exit → Act → World → Prop) : Exit → Act → World → Prop := fun e a w => (∀ c, e ≠ .panic c) ∧ Q e a w
theorem wpIn_noPanic {c : Code} {a : Act} {w : World} (h : c.wpIn F n P (noPanic Q) a w) : c.wpIn F n P Q a w := wpIn_mono h (fun _ _ _ h => h.2)
end
end Go.Proofs.Ytafamfjgehnddaa
