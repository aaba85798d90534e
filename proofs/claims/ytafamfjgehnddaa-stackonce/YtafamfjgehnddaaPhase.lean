/- A statement whose order is drawn, and some of whose operations write: what reads, and reads the same whatever the writers have done by then, may be taken first; a writer is taken where nothing else is ready. (Of any program.) -/
import Derived.BigQuiet
import Derived.Below
namespace Go.Proofs.Ytafamfjgehnddaa
open Go Go.RowKit

section
variable {P : Program} {ops : Array Oper} {Q : Exit → Act → World → Prop} {md : Region.Mode}

/-- Whatever order is picked from here on, every world on the way being of the class J. -/
def wpAnyJ (P : Program) (md : Region.Mode) (ops : Array Oper) (Q : Exit → Act → World → Prop) (J : World → Prop) : Nat → Array Bool → Act → World → Prop
  | 0, listed, a, w => Region.ready md ops listed = [] ∧ Q .normal a w
  | fuel + 1, listed, a, w => (Region.ready md ops listed = [] → Q .normal a w) ∧
    ∀ i ∈ Region.ready md ops listed, wpOp P ops Q i (fun a' w' => J w' ∧ wpAnyJ P md ops Q J fuel (listed.setIfInBounds i true) a' w') a w

theorem wpAnyJ.any {J : World → Prop} : ∀ (fuel : Nat) (listed : Array Bool) (a : Act) (w : World), wpAnyJ P md ops Q J fuel listed a w → wpAny P md ops Q fuel listed a w
  | 0, _, _, _, h => h
  | fuel + 1, _, _, _, h => ⟨h.1, fun i hi => wpOp_mono (fun a' w' h' => wpAnyJ.any fuel _ a' w' h'.2) (h.2 i hi)⟩

theorem wpAnyJ.mono {J J' : World → Prop} (hJ : ∀ w, J w → J' w) : ∀ (fuel : Nat) (listed : Array Bool) (a : Act) (w : World), wpAnyJ P md ops Q J fuel listed a w → wpAnyJ P md ops Q J' fuel listed a w
  | 0, _, _, _, h => h
  | fuel + 1, _, _, _, h => ⟨h.1, fun i hi => wpOp_mono (fun a' w' h' => ⟨hJ _ h'.1, wpAnyJ.mono hJ fuel _ a' w' h'.2⟩) (h.2 i hi)⟩

/-- In the frame a, in every world of the class, the operation leaves v in its slot, and the world as it was; or its guard passes it over. -/
def Steady (P : Program) (ops : Array Oper) (J : World → Prop) (o : Oper) (v : Value) (a : Act) : Prop :=
  (Region.wanted o (yielded ops a.tmps) = true ∧ ∀ w, J w → (execOp a.eval o).run P w = .ok (.value v) w) ∨ (Region.wanted o (yielded ops a.tmps) = false ∧ v = undef)

theorem Steady.of_same {J : World → Prop} {o : Oper} {v : Value} {a a' : Act} (h : Steady P ops J o v a) (he : execOp a'.eval o = execOp a.eval o)
    (hw : Region.wanted o (yielded ops a'.tmps) = Region.wanted o (yielded ops a.tmps)) : Steady P ops J o v a' := by
  unfold Steady at *; rw [he, hw]; exact h

theorem Steady.wpOp {J : World → Prop} {i : Nat} {o : Oper} {v : Value} {a : Act} {w : World} {K : Act → World → Prop} (hi : ops[i]? = some o) (h : Steady P ops J o v a) (hJ : J w) (hK : K (a.put o.dst v) w) : wpOp P ops Q i K a w := by
  unfold Go.wpOp
  simp only [hi]
  rcases h with ⟨hw, hv⟩ | ⟨hw, rfl⟩
  · simp only [hw, if_true, Oper.wp, hv w hJ, Oper.upon]; exact .inl hK
  · simp only [hw, Bool.false_eq_true, if_false]; exact hK

/-- An operation j that is apart from i does the same whether i's value is in its slot yet or not; what holds of the frame whatever j leaves in its own slot holds behind it. -/
theorem wpOp_ahead {Y : Act → Prop} {j : Nat} {oi oj : Oper} {v : Value} (hj : ops[j]? = some oj) (hap : oi.apart ops oj = true) (hsj : ∀ cs b, oj.op ≠ .select cs b)
    (hQ : ∀ c a w, Q (.panic c) (a.put oi.dst v) w → Q (.panic c) a w) (hY : ∀ a u, Y a → Y (a.put oj.dst u)) (hD : ∀ (a : Act) d, Y a → Y { a with defers := d :: a.defers })
    {K : Act → World → Prop} {a : Act} {w : World} (hy : Y a) (h : wpOp P ops Q j K (a.put oi.dst v) w) :
    wpOp P ops Q j (fun a' w' => Y a' ∧ K (a'.put oi.dst v) w') a w := by
  obtain ⟨h1, h2, _⟩ := Oper.apart_spec hap
  have comm := fun (b : Act) (u : Value) => Act.put_comm b v u h2
  unfold wpOp at *
  simp only [hj] at *
  rw [wanted_put oj a oi.dst v h1] at h
  by_cases hw : Region.wanted oj (yielded ops a.tmps) = true
  · simp only [hw, if_true] at h ⊢
    rcases h with h | ⟨hasks, hlets⟩
    · left
      unfold Oper.wp at *
      rw [execOp_put oj hsj a oi.dst v h1] at h
      generalize (execOp a.eval oj).run P w = r at *
      cases r with
      | ok n w' =>
        cases n <;> simp only [Oper.upon] at h ⊢
        case value u => exact ⟨hY a u hy, by rw [← comm a u]; exact h⟩
        case skip => exact ⟨hY a undef hy, by rw [← comm a undef]; exact h⟩
        case defer d => exact ⟨hY _ undef (hD a d hy), by rw [← comm _ undef, ← Act.put_defers]; exact h⟩
        case enter f args =>
          refine Calls.mono h fun e w'' he => ?_
          cases e with
          | returned u => exact ⟨hY a u hy, by rw [← comm a u]; exact he⟩
          | panicked c => exact hQ _ _ _ he
          | outgrown => exact he
        case row row args => exact Rows.mono h fun u w'' he => ⟨hY a u hy, by rw [← comm a u]; exact he⟩
      | halt x w' =>
        cases x <;> simp only [Oper.upon] at h ⊢
        case panic u => exact hQ _ _ _ h
    · right
      refine ⟨?_, hlets⟩
      unfold Oper.asks at *
      rw [execOp_put oj hsj a oi.dst v h1] at hasks
      exact hasks
  · simp only [hw] at h ⊢
    exact ⟨hY a undef hy, by rw [← comm a undef]; exact h⟩

/-- What is steady in the class, and ready, may be taken first, if whatever is done keeps to the class. -/
theorem wpAnyJ_first {J : World → Prop} {i : Nat} {oi : Oper} {v : Value} (hi : ops[i]? = some oi) (hsel : ∀ (j : Nat) (o : Oper) cs b, ops[j]? = some o → o.op ≠ .select cs b)
    (hQ : ∀ c a w, Q (.panic c) (a.put oi.dst v) w → Q (.panic c) a w) :
    ∀ (fuel : Nat) (listed : Array Bool) (a : Act) (w : World),
      (∀ j oj, ops[j]? = some oj → j ≠ i → listed.getD j true = false → (∀ e ∈ oj.after, Region.binds md e = true → e.on ≠ i) → oi.apart ops oj = true) →
      i ∈ Region.ready md ops listed → J w → Steady P ops J oi v a →
      wpAnyJ P md ops Q J fuel (listed.setIfInBounds i true) (a.put oi.dst v) w → wpAnyJ P md ops Q J (fuel + 1) listed a w := by
  intro fuel
  induction fuel with
  | zero =>
    intro listed a w _ hr hJ hy H
    refine ⟨fun h => (by rw [h] at hr; cases hr), fun j hj => ?_⟩
    by_cases hji : j = i
    · subst hji; exact hy.wpOp hi hJ ⟨hJ, H⟩
    · have := ready_mono hj hji
      rw [H.1] at this
      cases this
  | succ fuel ih =>
    intro listed a w hfree hr hJ hy H
    refine ⟨fun h => (by rw [h] at hr; cases hr), fun j hj => ?_⟩
    by_cases hji : j = i
    · subst hji; exact hy.wpOp hi hJ ⟨hJ, H⟩
    · have h1 := H.2 j (ready_mono hj hji)
      obtain ⟨hjun, oj, hoj, hall⟩ := mem_ready.1 hj
      have hnot : ∀ e ∈ oj.after, Region.binds md e = true → e.on ≠ i := fun e he hb heq => by
        have h1 := hall e he hb
        have h0 := (mem_ready.1 hr).1
        rw [heq] at h1
        rcases Nat.lt_or_ge i listed.size with h' | h'
        · simp [h'] at h0 h1; rw [h0] at h1; cases h1
        · simp [Array.getElem?_eq_none h'] at h1
      have hap := hfree j oj hoj hji hjun hnot
      have h3 := (Oper.apart_spec hap).2.2
      have h2 := wpOp_ahead (Y := Steady P ops J oi v) hoj hap (fun cs b => hsel j oj cs b hoj) hQ
        (fun b u hb => hb.of_same (execOp_put oi (fun cs b => hsel i oi cs b hi) b oj.dst u h3) (wanted_put oi b oj.dst u h3)) (fun b d hb => hb.of_same rfl rfl) hy h1
      have hfree' : ∀ k ok, ops[k]? = some ok → k ≠ i → (listed.setIfInBounds j true).getD k true = false →
          (∀ e ∈ ok.after, Region.binds md e = true → e.on ≠ i) → oi.apart ops ok = true := fun k ok hk hki hun hno => by
        refine hfree k ok hk hki ?_ hno
        by_cases hjk : j = k
        · subst hjk; exact hjun
        · rw [getD_set_ne true hjk] at hun; exact hun
      refine wpOp_mono (fun a' w' h4 => ⟨h4.2.1, ih (listed.setIfInBounds j true) a' w' hfree' (ready_mono hr (Ne.symm hji)) h4.2.1 h4.1 ?_⟩) h2
      rw [Array.setIfInBounds_comm _ _ hji]
      exact h4.2.2

/-- An operation that enters no function of the program. -/
def plainOp : Op → Bool
  | .move _ | .assign _ | .pick .. | .load .. | .fieldAddr .. | .indexAddr .. | .index .. | .field .. | .binOp .. | .unOp .. | .convert .. | .extract .. | .build .. | .nilCheck _ => true
  | .call c => match c.callee with | .builtin .len | .builtin .cap => true | _ => false
  | _ => false

theorem bind_value {s : Sem Value} {w w' : World} {n : Next} (h : Sem.run P (do let x ← s; pure (Next.value x)) w = .ok n w') : ∃ u, n = .value u := by
  rw [Sem.run_bind] at h
  cases hs : Sem.run P s w with
  | ok x w1 =>
    rw [hs] at h
    simp only [Result.andThen_ok, Sem.run_pure] at h
    cases h
    exact ⟨_, rfl⟩
  | halt x w1 =>
    rw [hs] at h
    simp [Result.andThen] at h

theorem seq_value {α : Type} {s : Sem α} {f : α → Sem Next} {w w' : World} {n : Next} (hf : ∀ x w w', (f x).run P w = .ok n w' → ∃ u, n = .value u) (h : Sem.run P (s >>= f) w = .ok n w') : ∃ u, n = .value u := by
  rw [Sem.run_bind] at h
  cases hs : Sem.run P s w with
  | ok x w1 => rw [hs] at h; exact hf _ _ _ h
  | halt x w1 => rw [hs] at h; simp [Result.andThen] at h

theorem pure_value {u : Value} {w w' : World} {n : Next} (h : Sem.run P (pure (Next.value u)) w = .ok n w') : ∃ u, n = .value u := by
  rw [Sem.run_pure] at h; cases h; exact ⟨_, rfl⟩

theorem then_value {r : Result Value} {w' : World} {n : Next} (h : (r.andThen fun a w' => Result.ok (Next.value a) w') = .ok n w') : ∃ u, n = .value u := by
  cases r with
  | ok x w1 => simp only [Result.andThen_ok] at h; cases h; exact ⟨_, rfl⟩
  | halt x w1 => simp [Result.andThen] at h

theorem panic_value {w w' : World} {n : Next} (h : Sem.run P (runtimePanic .nilDeref) w = .ok n w') : ∃ u, n = .value u := by
  simp [go_sem] at h

theorem plain_value {o : Oper} (hp : plainOp o.op = true) {ρ : Operand → Value} {w w' : World} {n : Next} (h : (execOp ρ o).run P w = .ok n w') : ∃ u, n = .value u := by
  unfold execOp at h
  cases hop : o.op <;> rw [hop] at h hp <;> simp only [plainOp, Bool.false_eq_true] at hp
  case move => exact pure_value h
  case assign => exact pure_value h
  case pick c a b => exact seq_value (fun _ _ _ h => pure_value h) h
  case nilCheck x =>
    simp only [] at h
    split at h
    · exact panic_value h
    · exact panic_value h
    · exact panic_value h
    · split at h
      · exact panic_value h
      · refine seq_value (fun _ _ _ h => ?_) h
        refine seq_value (fun _ _ _ h => ?_) h
        split at h
        · exact seq_value (fun _ _ _ h => pure_value h) h
        · exact pure_value h
      · exact pure_value h
    · exact pure_value h
  case call c =>
    simp only [resolve] at h
    split at hp
    · rename_i hc
      rw [hc] at h
      simp only [Sem.run_bind, Sem.run_pure, Result.andThen_ok, invoke, builtin] at h
      exact then_value h
    · rename_i hc
      rw [hc] at h
      simp only [Sem.run_bind, Sem.run_pure, Result.andThen_ok, invoke, builtin] at h
      exact then_value h
    · cases hp
  all_goals exact bind_value h

/-- Indices that may be taken one behind the other, of operations that enter nothing. -/
def takeable (md : Region.Mode) (ops : Array Oper) : List Nat → Array Bool → Bool
  | [], _ => true
  | i :: is, listed => (Region.ready md ops listed).contains i && Region.free md ops listed i && (match ops[i]? with | some o => plainOp o.op | none => false) && takeable md ops is (listed.setIfInBounds i true)

def listedBehind : List Nat → Array Bool → Array Bool
  | [], listed => listed
  | i :: is, listed => listedBehind is (listed.setIfInBounds i true)

theorem steady_of_quiet {J : World → Prop} {o : Oper} {a : Act} {K : Act → Prop} (hp : plainOp o.op = true) (h : if Region.wanted o (yielded ops a.tmps) then o.quiet P a J K else K (a.put o.dst undef)) : ∃ v, Steady P ops J o v a ∧ K (a.put o.dst v) := by
  by_cases hw : Region.wanted o (yielded ops a.tmps) = true
  · rw [if_pos hw] at h
    obtain ⟨v, h1, h2⟩ := h
    refine ⟨v, .inl ⟨hw, fun w hJ => ?_⟩, h2⟩
    have h3 := h1 w hJ
    unfold Oper.quietAt at h3
    cases hr : (execOp a.eval o).run P w with
    | ok n w' =>
      obtain ⟨u, rfl⟩ := plain_value hp hr
      rw [hr] at h3
      obtain ⟨rfl, rfl⟩ := h3
      rfl
    | halt x w' => rw [hr] at h3; exact absurd h3 (by simp [Oper.quietUpon])
  · rw [if_neg hw] at h
    exact ⟨undef, .inr ⟨by simpa using hw, rfl⟩, h⟩

/-- A stretch of operations that are steady in the class I. -/
theorem wpAnyJ_stretch {I : World → Prop} (hs : Region.noSelect ops = true) (hQ : ∀ c (a : Act) d v w, Q (.panic c) (a.put (some d) v) w → Q (.panic c) a w) {fuel : Nat} {w : World} (hI : I w) :
    ∀ (is : List Nat) (listed : Array Bool) (a : Act), takeable md ops is listed = true →
      wpQuiet P ops I (fun a' => wpAnyJ P md ops Q I fuel (listedBehind is listed) a' w) (is.filterMap fun i => ops[i]?) a → wpAnyJ P md ops Q I (is.length + fuel) listed a w
  | [], listed, a, _, h => by simpa [wpQuiet, listedBehind] using h
  | i :: is, listed, a, ht, h => by
    simp only [takeable, Bool.and_eq_true] at ht
    obtain ⟨⟨⟨hr, hf⟩, hp⟩, ht'⟩ := ht
    cases ho : ops[i]? with
    | none => rw [ho] at hp; cases hp
    | some o =>
      rw [ho] at hp
      rw [List.filterMap_cons, ho] at h
      obtain ⟨v, hv, hK⟩ := steady_of_quiet hp h
      have := wpAnyJ_first ho (Region.noSelect_spec hs) (fun c a w h => by cases hd : o.dst with | none => rw [hd] at h; exact h | some d => rw [hd] at h; exact hQ c a d v w h) (is.length + fuel) listed a w (Region.free_spec ho hf) (by simpa using hr) hI hv (wpAnyJ_stretch hs hQ hI is _ _ ht' hK)
      rw [List.length_cons, Nat.add_right_comm]
      exact this

/-- A world of the class. -/
structure Mem (I : World → Prop) where
  w' : World
  h : I w'

/-- The same, the class being spelt as the walk wants it. -/
theorem stretch {I : World → Prop} (hs : Region.noSelect ops = true) (hQ : ∀ c (a : Act) d v w, Q (.panic c) (a.put (some d) v) w → Q (.panic c) a w) {fuel : Nat} {w : World} (hI : I w)
    (is : List Nat) {listed : Array Bool} {a : Act} (ht : takeable md ops is listed = true)
    (h : wpQuiet P ops (fun x => ∃ u : Mem I, x = u.w') (fun a' => wpAnyJ P md ops Q I fuel (listedBehind is listed) a' w) (is.filterMap fun i => ops[i]?) a) : wpAnyJ P md ops Q I (is.length + fuel) listed a w := by
  have e : (fun x => ∃ u : Mem I, x = u.w') = I := funext fun x => propext ⟨fun ⟨u, hu⟩ => hu ▸ u.h, fun hx => ⟨⟨x, hx⟩, rfl⟩⟩
  rw [e] at h
  exact wpAnyJ_stretch hs hQ hI is listed a ht h

/-- An operation that writes, where nothing else is ready. -/
theorem wpAnyJ_writer {J : World → Prop} {i fuel : Nat} {o : Oper} {listed : Array Bool} {a : Act} {w : World} (ho : ops[i]? = some o) (hr : Region.ready md ops listed = [i])
    (h : ∀ K : Act → World → Prop, (∀ a' w', J w' → wpAnyJ P md ops Q J fuel (listed.setIfInBounds i true) a' w' → K a' w') → if Region.wanted o (yielded ops a.tmps) = true then Oper.wp P o a w K Q else K (a.put o.dst undef) w) :
    wpAnyJ P md ops Q J (fuel + 1) listed a w := by
  refine ⟨fun h0 => (by rw [hr] at h0; cases h0), fun j hj => ?_⟩
  rw [hr, List.mem_singleton] at hj
  subst hj
  unfold wpOp
  simp only [ho]
  have h1 := h (fun a' w' => J w' ∧ wpAnyJ P md ops Q J fuel (listed.setIfInBounds j true) a' w') (fun _ _ h1 h2 => ⟨h1, h2⟩)
  by_cases hw : Region.wanted o (yielded ops a.tmps) = true
  · rw [if_pos hw] at h1 ⊢; exact .inl h1
  · rw [if_neg hw] at h1 ⊢; exact h1

theorem wpAnyJ_done {J : World → Prop} {fuel : Nat} {listed : Array Bool} {a : Act} {w : World} (hr : Region.ready md ops listed = []) (h : Q .normal a w) : wpAnyJ P md ops Q J fuel listed a w := by
  cases fuel with
  | zero => exact ⟨hr, h⟩
  | succ n => exact ⟨fun _ => h, by rw [hr]; simp⟩

/-- From a class to a narrower one. -/
theorem wpAnyJ_class {I J : World → Prop} (hIJ : ∀ w, I w → J w) {fuel : Nat} {listed : Array Bool} {a : Act} {w : World} (h : wpAnyJ P md ops Q I fuel listed a w) : wpAnyJ P md ops Q J fuel listed a w := wpAnyJ.mono hIJ fuel listed a w h

/-- Indices that may be taken one behind the other, to the end. -/
def endable (md : Region.Mode) (ops : Array Oper) : List Nat → Array Bool → Bool
  | [], listed => (Region.ready md ops listed).isEmpty
  | i :: is, listed => (Region.ready md ops listed).contains i && Region.free md ops listed i && (ops[i]?).isSome && endable md ops is (listed.setIfInBounds i true)

theorem wpAnyQ_take {C : World → Prop} {Qa : Act → Prop} (hs : Region.noSelect ops = true) : ∀ (is : List Nat) (listed : Array Bool) (a : Act), endable md ops is listed = true →
    wpQuiet P ops C Qa (is.filterMap fun i => ops[i]?) a → wpAnyQ P md ops C Qa is.length listed a
  | [], listed, a, he, h => ⟨by simpa [endable] using he, by simpa [wpQuiet] using h⟩
  | i :: is, listed, a, he, h => by
    simp only [endable, Bool.and_eq_true] at he
    obtain ⟨⟨⟨hr, hf⟩, hp⟩, he'⟩ := he
    cases ho : ops[i]? with
    | none => rw [ho] at hp; cases hp
    | some o =>
      rw [List.filterMap_cons, ho] at h
      have hst : qOp P ops C i (wpQuiet P ops C Qa (is.filterMap fun i => ops[i]?)) a := by unfold qOp; simp only [ho]; exact h
      obtain ⟨v, hy, hK⟩ := yieldsIn_of_qOp ho hst
      exact wpAnyQ_first ho (Region.noSelect_spec hs) is.length listed a (Region.free_spec ho hf) (by simpa using hr) hy (wpAnyQ_take hs is _ _ he' hK)

theorem wpAnyJ_of_quiet {C : World → Prop} {Qa : Act → Prop} (hQ : ∀ a w, C w → Qa a → Q .normal a w) : ∀ (fuel : Nat) (listed : Array Bool) (a : Act) (w : World), C w → wpAnyQ P md ops C Qa fuel listed a → wpAnyJ P md ops Q C fuel listed a w
  | 0, _, _, _, hw, h => ⟨h.1, hQ _ _ hw h.2⟩
  | fuel + 1, _, _, _, hw, h => ⟨fun h0 => hQ _ _ hw (h.1 h0), fun i hi => wpOp_of_qOp hw (fun a' w' hw' h' => ⟨hw', wpAnyJ_of_quiet hQ fuel _ a' w' hw' h'⟩) (h.2 i hi)⟩

/-- The rest of the operations, each quiet in the class C (calls, too), to the end. -/
theorem wpAnyJ_rest {C : World → Prop} (hs : Region.noSelect ops = true) (is : List Nat) {listed : Array Bool} {a : Act} {w : World} (hC : C w) (he : endable md ops is listed = true)
    (h : wpQuiet P ops C (fun a' => ∀ w', C w' → Q .normal a' w') (is.filterMap fun i => ops[i]?) a) : wpAnyJ P md ops Q C is.length listed a w :=
  wpAnyJ_of_quiet (Qa := fun a' => ∀ w', C w' → Q .normal a' w') (fun _ _ hw h => h _ hw) _ _ _ _ hC (wpAnyQ_take hs is listed a he h)

theorem rest {C : World → Prop} (hs : Region.noSelect ops = true) (is : List Nat) {listed : Array Bool} {a : Act} {w : World} (hC : C w) (he : endable md ops is listed = true)
    (h : wpQuiet P ops (fun x => ∃ u : Mem C, x = u.w') (fun a' => ∀ w', C w' → Q .normal a' w') (is.filterMap fun i => ops[i]?) a) : wpAnyJ P md ops Q C is.length listed a w := by
  have e : (fun x => ∃ u : Mem C, x = u.w') = C := funext fun x => propext ⟨fun ⟨u, hu⟩ => hu ▸ u.h, fun hx => ⟨⟨x, hx⟩, rfl⟩⟩
  rw [e] at h
  exact wpAnyJ_rest hs is hC he h

/-- A call that leaves a world of the class, from a world of it. -/
theorem mem_call {C : World → Prop} {f : FuncId} {args : Array Value} (u : Mem C) {v : Value} {R : World → Prop}
    (h : Calls P f args u.w' fun e w'' => e = .returned v ∧ R w'') (hR : ∀ x, R x → C x) : Calls P f args u.w' fun e w'' => e = .returned v ∧ ∃ m : Mem C, w'' = m.w' :=
  h.mono fun _ w'' ⟨he, hr⟩ => ⟨he, ⟨w'', hR _ hr⟩, rfl⟩

theorem region_start {id : Nat} {J : World → Prop} {a : Act} {w : World} (hm : P.follows .mixedOrders = true) (h : wpAnyJ P .any ops Q J ops.size (Array.replicate ops.size false) a w.drew) : (Code.region id ops true).wp P Q a w :=
  wp_region_any hm (wpAnyJ.any _ _ _ _ h)

end
end Go.Proofs.Ytafamfjgehnddaa
