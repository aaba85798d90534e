/- As Phase, where the last operation of all (q) turns what the others read. (Of any program.) -/
import Derived.Test.YtafamfjgehnddaaPhaseS
namespace Go.Proofs.Ytafamfjgehnddaa
open Go Go.RowKit
section
variable {P : Program} {ops : Array Oper} {Q : Exit → Act → World → Prop} {md : Region.Mode}

/-- Whatever order is picked from here on, every world on the way, but behind q, being of the class J. -/
def wpAnyL (P : Program) (md : Region.Mode) (ops : Array Oper) (Q : Exit → Act → World → Prop) (q : Nat) (J : World → Prop) : Nat → Array Bool → Act → World → Prop
  | 0, listed, a, w => Region.ready md ops listed = [] ∧ Q .normal a w
  | fuel + 1, listed, a, w => (Region.ready md ops listed = [] → Q .normal a w) ∧
    ∀ i ∈ Region.ready md ops listed, wpOp P ops Q i (fun a' w' => (i ≠ q → J w') ∧ wpAnyL P md ops Q q J fuel (listed.setIfInBounds i true) a' w') a w
theorem wpAnyL.any {q : Nat} {J : World → Prop} : ∀ (fuel : Nat) (listed : Array Bool) (a : Act) (w : World), wpAnyL P md ops Q q J fuel listed a w → wpAny P md ops Q fuel listed a w
  | 0, _, _, _, h => h
  | fuel + 1, _, _, _, h => ⟨h.1, fun i hi => wpOp_mono (fun a' w' h' => wpAnyL.any fuel _ a' w' h'.2) (h.2 i hi)⟩

/-- What is steady in the class, and ready, may be taken first, if whatever is done keeps to the class. -/
theorem wpAnyL_first {q : Nat} {J : World → Prop} {i : Nat} {oi : Oper} {v : Value} (hi : ops[i]? = some oi) (hiq : i ≠ q) (hbq : ∀ oq, ops[q]? = some oq → ∃ e ∈ oq.after, Region.binds md e = true ∧ e.on = i) (hsel : ∀ (j : Nat) (o : Oper) cs b, ops[j]? = some o → o.op ≠ .select cs b)
    (hQ : ∀ c a w, Q (.panic c) (a.put oi.dst v) w → Q (.panic c) a w) :
    ∀ (fuel : Nat) (listed : Array Bool) (a : Act) (w : World),
      (∀ j oj, ops[j]? = some oj → j ≠ i → listed.getD j true = false → (∀ e ∈ oj.after, Region.binds md e = true → e.on ≠ i) → oi.apart ops oj = true) →
      i ∈ Region.ready md ops listed → J w → Steady P ops J oi v a →
      wpAnyL P md ops Q q J fuel (listed.setIfInBounds i true) (a.put oi.dst v) w → wpAnyL P md ops Q q J (fuel + 1) listed a w := by
  intro fuel
  induction fuel with
  | zero =>
    intro listed a w _ hr hJ hy H
    refine ⟨fun h => (by rw [h] at hr; cases hr), fun j hj => ?_⟩
    by_cases hji : j = i
    · subst hji; exact hy.wpOp hi hJ ⟨fun _ => hJ, H⟩
    · have := ready_mono hj hji
      rw [H.1] at this
      cases this
  | succ fuel ih =>
    intro listed a w hfree hr hJ hy H
    refine ⟨fun h => (by rw [h] at hr; cases hr), fun j hj => ?_⟩
    by_cases hji : j = i
    · subst hji; exact hy.wpOp hi hJ ⟨fun _ => hJ, H⟩
    · have h1 := H.2 j (ready_mono hj hji)
      obtain ⟨hjun, oj, hoj, hall⟩ := mem_ready.1 hj
      have hnot : ∀ e ∈ oj.after, Region.binds md e = true → e.on ≠ i := fun e he hb heq => by
        have h1 := hall e he hb
        have h0 := (mem_ready.1 hr).1
        rw [heq] at h1
        rcases Nat.lt_or_ge i listed.size with h' | h'
        · simp [h'] at h0 h1; rw [h0] at h1; cases h1
        · simp [Array.getElem?_eq_none h'] at h1
      have hjq : j ≠ q := fun e => by obtain ⟨e', he', hb', ho'⟩ := hbq oj (by rw [← e]; exact hoj); exact hnot e' he' hb' ho'
      have hap := hfree j oj hoj hji hjun hnot
      have h3 := (Oper.apart_spec hap).2.2
      have h2 := wpOp_ahead (Y := Steady P ops J oi v) hoj hap (fun cs b => hsel j oj cs b hoj) hQ
        (fun b u hb => hb.of_same (execOp_put oi (fun cs b => hsel i oi cs b hi) b oj.dst u h3) (wanted_put oi b oj.dst u h3)) (fun b d hb => hb.of_same rfl rfl) hy h1
      have hfree' : ∀ k ok, ops[k]? = some ok → k ≠ i → (listed.setIfInBounds j true).getD k true = false →
          (∀ e ∈ ok.after, Region.binds md e = true → e.on ≠ i) → oi.apart ops ok = true := fun k ok hk hki hun hno => by
        refine hfree k ok hk hki ?_ hno
        by_cases hjk : j = k
        · subst hjk; exact hjun
        · rw [getD_set_ne true hjk] at hun; exact hun
      refine wpOp_mono (fun a' w' h4 => ⟨h4.2.1, ih (listed.setIfInBounds j true) a' w' hfree' (ready_mono hr (Ne.symm hji)) (h4.2.1 hjq) h4.1 ?_⟩) h2
      rw [Array.setIfInBounds_comm _ _ hji]
      exact h4.2.2


def takeableL (md : Region.Mode) (ops : Array Oper) (q : Nat) : List Nat → Array Bool → Bool
  | [], _ => true
  | i :: is, listed => (Region.ready md ops listed).contains i && Region.free md ops listed i && (match ops[i]? with | some o => plainOp2 o.op | none => false) && (i != q && match ops[q]? with | some oq => oq.after.any (fun e => Region.binds md e && e.on == i) | none => false) && takeableL md ops q is (listed.setIfInBounds i true)
theorem wpAnyL_stretch {q : Nat} {I : World → Prop} (hs : Region.noSelect ops = true) (hQ : ∀ c (a : Act) d v w, Q (.panic c) (a.put (some d) v) w → Q (.panic c) a w) {fuel : Nat} {w : World} (hI : I w) :
    ∀ (is : List Nat) (listed : Array Bool) (a : Act), takeableL md ops q is listed = true →
      wpQuiet P ops I (fun a' => wpAnyL P md ops Q q I fuel (listedBehind is listed) a' w) (is.filterMap fun i => ops[i]?) a → wpAnyL P md ops Q q I (is.length + fuel) listed a w
  | [], listed, a, _, h => by simpa [wpQuiet, listedBehind] using h
  | i :: is, listed, a, ht, h => by
    simp only [takeableL, Bool.and_eq_true] at ht
    obtain ⟨⟨⟨⟨hr, hf⟩, hp⟩, hiq, hbq⟩, ht'⟩ := ht
    cases ho : ops[i]? with
    | none => rw [ho] at hp; cases hp
    | some o =>
      rw [ho] at hp
      rw [List.filterMap_cons, ho] at h
      obtain ⟨v, hv, hK⟩ := steady_of_quiet2 hp h
      have := wpAnyL_first (q := q) ho (by simpa using hiq) (fun oq hoq => by
          rw [hoq] at hbq
          obtain ⟨e, he, hb⟩ := Array.any_eq_true'.1 hbq
          simp only [Bool.and_eq_true, beq_iff_eq] at hb
          exact ⟨e, he, hb.1, hb.2⟩) (Region.noSelect_spec hs) (fun c a w h => by cases hd : o.dst with | none => rw [hd] at h; exact h | some d => rw [hd] at h; exact hQ c a d v w h) (is.length + fuel) listed a w (Region.free_spec ho hf) (by simpa using hr) hI hv (wpAnyL_stretch hs hQ hI is _ _ ht' hK)
      rw [List.length_cons, Nat.add_right_comm]
      exact this
theorem stretchL {q : Nat} {I : World → Prop} (hs : Region.noSelect ops = true) (hQ : ∀ c (a : Act) d v w, Q (.panic c) (a.put (some d) v) w → Q (.panic c) a w) {fuel : Nat} {w : World} (hI : I w)
    (is : List Nat) {listed : Array Bool} {a : Act} (ht : takeableL md ops q is listed = true)
    (h : wpQuiet P ops (fun x => ∃ u : Mem I, x = u.w') (fun a' => wpAnyL P md ops Q q I fuel (listedBehind is listed) a' w) (is.filterMap fun i => ops[i]?) a) : wpAnyL P md ops Q q I (is.length + fuel) listed a w := by
  have e : (fun x => ∃ u : Mem I, x = u.w') = I := funext fun x => propext ⟨fun ⟨u, hu⟩ => hu ▸ u.h, fun hx => ⟨⟨x, hx⟩, rfl⟩⟩
  rw [e] at h
  exact wpAnyL_stretch hs hQ hI is listed a ht h
theorem wpAnyL_one {q : Nat} {J : World → Prop} {i fuel : Nat} {o : Oper} {listed : Array Bool} {a : Act} {w : World} (ho : ops[i]? = some o) (hw : Region.wanted o (yielded ops a.tmps) = true)
    (h : ∀ K : Act → World → Prop, (∀ a' w', (i ≠ q → J w') → wpAnyL P md ops Q q J fuel (listed.setIfInBounds i true) a' w' → K a' w') → Oper.wp P o a w K Q) :
    wpOp P ops Q i (fun a' w' => (i ≠ q → J w') ∧ wpAnyL P md ops Q q J fuel (listed.setIfInBounds i true) a' w') a w := by
  unfold wpOp
  simp only [ho]
  rw [if_pos hw]
  exact .inl (h _ (fun _ _ h1 h2 => ⟨h1, h2⟩))
theorem writerL {q : Nat} {J : World → Prop} {i fuel : Nat} {o : Oper} {listed : Array Bool} {a : Act} {w : World} (ho : ops[i]? = some o) (hr : Region.ready md ops listed = [i]) (hw : Region.wanted o (yielded ops a.tmps) = true)
    (h : ∀ K : Act → World → Prop, (∀ a' w', (i ≠ q → J w') → wpAnyL P md ops Q q J fuel (listed.setIfInBounds i true) a' w' → K a' w') → Oper.wp P o a w K Q) : wpAnyL P md ops Q q J (fuel + 1) listed a w := by
  refine ⟨fun h0 => (by rw [hr] at h0; cases h0), fun j hj => ?_⟩
  rw [hr, List.mem_singleton] at hj
  subst hj
  exact wpAnyL_one ho hw h
theorem twoL {q : Nat} {J : World → Prop} {i j fuel : Nat} {o o' : Oper} {listed : Array Bool} {a : Act} {w : World} (ho : ops[i]? = some o) (ho' : ops[j]? = some o') (hr : Region.ready md ops listed = [i, j]) (hw : Region.wanted o (yielded ops a.tmps) = true) (hw' : Region.wanted o' (yielded ops a.tmps) = true)
    (h : ∀ K : Act → World → Prop, (∀ a' w', (i ≠ q → J w') → wpAnyL P md ops Q q J fuel (listed.setIfInBounds i true) a' w' → K a' w') → Oper.wp P o a w K Q)
    (h' : ∀ K : Act → World → Prop, (∀ a' w', (j ≠ q → J w') → wpAnyL P md ops Q q J fuel (listed.setIfInBounds j true) a' w' → K a' w') → Oper.wp P o' a w K Q) :
    wpAnyL P md ops Q q J (fuel + 1) listed a w := by
  refine ⟨fun h0 => (by rw [hr] at h0; cases h0), fun k hk => ?_⟩
  rw [hr] at hk
  simp only [List.mem_cons, List.not_mem_nil, or_false] at hk
  rcases hk with rfl | rfl
  · exact wpAnyL_one ho hw h
  · exact wpAnyL_one ho' hw' h'
theorem doneL {q : Nat} {J : World → Prop} {fuel : Nat} {listed : Array Bool} {a : Act} {w : World} (hr : Region.ready md ops listed = []) (h : Q .normal a w) : wpAnyL P md ops Q q J fuel listed a w := by
  cases fuel with
  | zero => exact ⟨hr, h⟩
  | succ n => exact ⟨fun _ => h, by rw [hr]; simp⟩
theorem startL (q : Nat) {id : Nat} {J : World → Prop} {a : Act} {w : World} (hm : P.follows .mixedOrders = true) (h : wpAnyL P .any ops Q q J ops.size (Array.replicate ops.size false) a w.drew) : (Code.region id ops true).wp P Q a w :=
  wp_region_any hm (wpAnyL.any _ _ _ _ h)
end
end Go.Proofs.Ytafamfjgehnddaa
