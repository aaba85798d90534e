/- Phase's law where two operations that write are ready. (Of any program.) Phase's stretch, with cuts of slices among what is read; 'append' as an operation that writes, of whatever is appended. (Of any program.) As Phase, where the last operation of all (q) turns what the others read. (Of any program.) Package lock: new machines; what they hold. What lies of an arena, as facts that worlds above keep. Whether a take, or a leave, has a step to do in an arena; who has the lock. The lock's word, turned by takes and leaves. A take's step, a leave's; machines that have nothing to do. The document's example of a lock. Many things beside one another, by number; rows of cells by number. (Of any program.) Rows of cells that are made. -/
import Derived.Test.YtgenkjmcddjaoaaGreatPhase
import Derived.Test.YtgenkjmcddjaoaaGreatTreWalk2
import Derived.Laws.OwnMore
import Derived.Maps.AppendAt
import Derived.Test.YtgenkjmcddjaoaaGreatArnOwn
import Derived.Test.YtgenkjmcddjaoaaGreatBo
import Derived.Test.YtgenkjmcddjaoaaGreatLayFns
import Derived.Test.YtgenkjmcddjaoaaGreatOver
import Derived.Test.YtgenkjmcddjaoaaGreatSepAc
namespace Go.Proofs.YtgenkjmcddjaoaaGreat
open Go Go.RowKit
section
variable {P : Program} {ops : Array Oper} {Q : Exit → Act → World → Prop} {md : Region.Mode}

theorem wpAnyJ_one {J : World → Prop} {i fuel : Nat} {o : Oper} {listed : Array Bool} {a : Act} {w : World} (ho : ops[i]? = some o)
    (h : ∀ K : Act → World → Prop, (∀ a' w', J w' → wpAnyJ P md ops Q J fuel (listed.setIfInBounds i true) a' w' → K a' w') → if Region.wanted o (yielded ops a.tmps) = true then Oper.wp P o a w K Q else K (a.put o.dst undef) w) :
    wpOp P ops Q i (fun a' w' => J w' ∧ wpAnyJ P md ops Q J fuel (listed.setIfInBounds i true) a' w') a w := by
  unfold wpOp
  simp only [ho]
  have h1 := h (fun a' w' => J w' ∧ wpAnyJ P md ops Q J fuel (listed.setIfInBounds i true) a' w') (fun _ _ h1 h2 => ⟨h1, h2⟩)
  by_cases hw : Region.wanted o (yielded ops a.tmps) = true
  · rw [if_pos hw] at h1 ⊢; exact .inl h1
  · rw [if_neg hw] at h1 ⊢; exact h1

/-- Two operations that write are ready: either may come first. -/
theorem wpAnyJ_two {J : World → Prop} {i j fuel : Nat} {o o' : Oper} {listed : Array Bool} {a : Act} {w : World} (ho : ops[i]? = some o) (ho' : ops[j]? = some o') (hr : Region.ready md ops listed = [i, j])
    (h : ∀ K : Act → World → Prop, (∀ a' w', J w' → wpAnyJ P md ops Q J fuel (listed.setIfInBounds i true) a' w' → K a' w') → if Region.wanted o (yielded ops a.tmps) = true then Oper.wp P o a w K Q else K (a.put o.dst undef) w)
    (h' : ∀ K : Act → World → Prop, (∀ a' w', J w' → wpAnyJ P md ops Q J fuel (listed.setIfInBounds j true) a' w' → K a' w') → if Region.wanted o' (yielded ops a.tmps) = true then Oper.wp P o' a w K Q else K (a.put o'.dst undef) w) :
    wpAnyJ P md ops Q J (fuel + 1) listed a w := by
  refine ⟨fun h0 => (by rw [hr] at h0; cases h0), fun k hk => ?_⟩
  rw [hr] at hk
  simp only [List.mem_cons, List.not_mem_nil, or_false] at hk
  rcases hk with rfl | rfl
  · exact wpAnyJ_one ho h
  · exact wpAnyJ_one ho' h'
end
end Go.Proofs.YtgenkjmcddjaoaaGreat

namespace Go.Proofs.YtgenkjmcddjaoaaGreat
open Go Go.RowKit
section
variable {P : Program} {ops : Array Oper} {Q : Exit → Act → World → Prop} {md : Region.Mode}

def plainOp2 : Op → Bool
  | .slice .. => true
  | o => plainOp o
theorem plain_value2 {o : Oper} (hp : plainOp2 o.op = true) {ρ : Operand → Value} {w w' : World} {n : Next} (h : (execOp ρ o).run P w = .ok n w') : ∃ u, n = .value u := by
  cases hop : o.op
  case slice =>
    unfold execOp at h
    rw [hop] at h
    exact bind_value h
  all_goals exact plain_value (by rw [hop] at hp ⊢; exact hp) h
def takeable2 (md : Region.Mode) (ops : Array Oper) : List Nat → Array Bool → Bool
  | [], _ => true
  | i :: is, listed => (Region.ready md ops listed).contains i && Region.free md ops listed i && (match ops[i]? with | some o => plainOp2 o.op | none => false) && takeable2 md ops is (listed.setIfInBounds i true)
theorem steady_of_quiet2 {J : World → Prop} {o : Oper} {a : Act} {K : Act → Prop} (hp : plainOp2 o.op = true) (h : if Region.wanted o (yielded ops a.tmps) then o.quiet P a J K else K (a.put o.dst undef)) : ∃ v, Steady P ops J o v a ∧ K (a.put o.dst v) := by
  by_cases hw : Region.wanted o (yielded ops a.tmps) = true
  · rw [if_pos hw] at h
    obtain ⟨v, h1, h2⟩ := h
    refine ⟨v, .inl ⟨hw, fun w hJ => ?_⟩, h2⟩
    have h3 := h1 w hJ
    unfold Oper.quietAt at h3
    cases hr : (execOp a.eval o).run P w with
    | ok n w' =>
      obtain ⟨u, rfl⟩ := plain_value2 hp hr
      rw [hr] at h3
      obtain ⟨rfl, rfl⟩ := h3
      rfl
    | halt x w' => rw [hr] at h3; exact absurd h3 (by simp [Oper.quietUpon])
  · rw [if_neg hw] at h
    exact ⟨undef, .inr ⟨by simpa using hw, rfl⟩, h⟩
theorem wpAnyJ_stretch2 {I : World → Prop} (hs : Region.noSelect ops = true) (hQ : ∀ c (a : Act) d v w, Q (.panic c) (a.put (some d) v) w → Q (.panic c) a w) {fuel : Nat} {w : World} (hI : I w) :
    ∀ (is : List Nat) (listed : Array Bool) (a : Act), takeable2 md ops is listed = true →
      wpQuiet P ops I (fun a' => wpAnyJ P md ops Q I fuel (listedBehind is listed) a' w) (is.filterMap fun i => ops[i]?) a → wpAnyJ P md ops Q I (is.length + fuel) listed a w
  | [], listed, a, _, h => by simpa [wpQuiet, listedBehind] using h
  | i :: is, listed, a, ht, h => by
    simp only [takeable2, Bool.and_eq_true] at ht
    obtain ⟨⟨⟨hr, hf⟩, hp⟩, ht'⟩ := ht
    cases ho : ops[i]? with
    | none => rw [ho] at hp; cases hp
    | some o =>
      rw [ho] at hp
      rw [List.filterMap_cons, ho] at h
      obtain ⟨v, hv, hK⟩ := steady_of_quiet2 hp h
      have := wpAnyJ_first ho (Region.noSelect_spec hs) (fun c a w h => by cases hd : o.dst with | none => rw [hd] at h; exact h | some d => rw [hd] at h; exact hQ c a d v w h) (is.length + fuel) listed a w (Region.free_spec ho hf) (by simpa using hr) hI hv (wpAnyJ_stretch2 hs hQ hI is _ _ ht' hK)
      rw [List.length_cons, Nat.add_right_comm]
      exact this
theorem stretch2 {I : World → Prop} (hs : Region.noSelect ops = true) (hQ : ∀ c (a : Act) d v w, Q (.panic c) (a.put (some d) v) w → Q (.panic c) a w) {fuel : Nat} {w : World} (hI : I w)
    (is : List Nat) {listed : Array Bool} {a : Act} (ht : takeable2 md ops is listed = true)
    (h : wpQuiet P ops (fun x => ∃ u : Mem I, x = u.w') (fun a' => wpAnyJ P md ops Q I fuel (listedBehind is listed) a' w) (is.filterMap fun i => ops[i]?) a) : wpAnyJ P md ops Q I (is.length + fuel) listed a w := by
  have e : (fun x => ∃ u : Mem I, x = u.w') = I := funext fun x => propext ⟨fun ⟨u, hu⟩ => hu ▸ u.h, fun hx => ⟨⟨x, hx⟩, rfl⟩⟩
  rw [e] at h
  exact wpAnyJ_stretch2 hs hQ hI is listed a ht h
end

/-- What is appended: nothing at all, or m elements that lie somewhere. -/
def Src (w : World) (x : Value) (m : Nat) (news : List Value) : Prop := (x = .slice none 0 0 ∧ m = 0 ∧ news = []) ∨ ∃ ad c, x = .slice (some ad) m c ∧ ∀ j u, news[j]? = some u → w.cell? (ad.add j) = some u
theorem oper_append {P : Program} (w : World) {o : Oper} {a : Act} {Q : Exit → Act → World → Prop} {K : Act → World → Prop}
    (s x : Operand) (t : TypeId) (hop : o.op = Op.call { callee := Callee.builtin Builtin.append, args := #[s, x], argTypes := #[t, t] })
    (base : Nat) (e : TypeId) (i : TypeInfo) (z : Value) (size bytes : Nat) (h1 : P.underlying t = some (.slice e)) (h2 : P.info? e = some i) (h3 : i.zero = some z) (h4 : i.size = size) (h5 : i.bytes = bytes) (h6 : z.cells.size = size) (h7 : 0 < size)
    (v : Value) (k : Nat) (xs : List Value) (hs : a.eval s = v) (hown : w.ownsRow base e size v k xs) (m : Nat) (news : List Value) (hx : Src w (a.eval x) m news) (hn : news.length = m * size)
    (h1c : ∀ u ∈ news, u.oneCell' = true) (b1 : k + m ≤ maxLen) (b2 : (k + m) * bytes ≤ 140737488355328) (b3 : base ≤ w.heap.size)
    (hK : ∀ v' w', w'.ownsRow base e size v' (k + m) (xs ++ news) → w.grownBy w' v.ownBlock → (v'.ownBlock = v.ownBlock ∨ v'.ownBlock = some w.heap.size) → K (a.put o.dst v') w') :
    Oper.wp P o a w K Q := by
  rcases hx with ⟨hx, rfl, rfl⟩ | ⟨ad, c, hx, hc⟩
  · have hrun := run_append_owned_none (P := P) w base t o.type e i size h1 h2 v k xs hown
    unfold Oper.wp
    simp [execOp, hop, resolve, invoke, builtin, hs, hx, hrun, Result.andThen]
    exact hK _ _ (by simpa using hown) ⟨rfl, rfl, rfl, Nat.le_refl _, fun _ _ _ => rfl⟩ (.inl rfl)
  · obtain ⟨v', w', hrun, r1, r2, _, r4⟩ := run_append_own_at (P := P) w base t o.type e i z size bytes h1 h2 h3 h4 h5 h6 h7 v k xs hown ad m c news hn hc h1c b1 b2 b3
    unfold Oper.wp
    simp [execOp, hop, resolve, invoke, builtin, hs, hx, hrun, Result.andThen]
    exact hK _ _ r1 r2 r4
theorem cells_at {w : World} {b : Nat} {cs : List Value} {t : TypeId} (h : w.heap[b]? = some (.cells cs.toArray t (0, 0))) : ∀ j u, cs[j]? = some u → w.cell? ((⟨b, 0, none⟩ : Addr).add j) = some u := fun j u hj => by
  have ea : (⟨b, 0, none⟩ : Addr).add j = ⟨b, j, none⟩ := by unfold Addr.add; split <;> simp_all
  rw [ea, cell_of_heap h]
  simpa using hj
theorem cells_new (w : World) (cs : List Value) (t : TypeId) : ∀ j u, cs[j]? = some u → (w.alloc (.cells cs.toArray t)).cell? ((⟨w.heap.size, 0, none⟩ : Addr).add j) = some u := cells_at (heap_alloc_at w _)
end Go.Proofs.YtgenkjmcddjaoaaGreat

namespace Go.Proofs.YtgenkjmcddjaoaaGreat
open Go Go.RowKit
section
variable {P : Program} {ops : Array Oper} {Q : Exit → Act → World → Prop} {md : Region.Mode}

/-- Whatever order is picked from here on, every world on the way, but behind q, being of the class J. -/
def wpAnyL (P : Program) (md : Region.Mode) (ops : Array Oper) (Q : Exit → Act → World → Prop) (q : Nat) (J : World → Prop) : Nat → Array Bool → Act → World → Prop
  | 0, listed, a, w => Region.ready md ops listed = [] ∧ Q .normal a w
  | fuel + 1, listed, a, w => (Region.ready md ops listed = [] → Q .normal a w) ∧
    ∀ i ∈ Region.ready md ops listed, wpOp P ops Q i (fun a' w' => (i ≠ q → J w') ∧ wpAnyL P md ops Q q J fuel (listed.setIfInBounds i true) a' w') a w
theorem wpAnyL.any {q : Nat} {J : World → Prop} : ∀ (fuel : Nat) (listed : Array Bool) (a : Act) (w : World), wpAnyL P md ops Q q J fuel listed a w → wpAny P md ops Q fuel listed a w
  | 0, _, _, _, h => h
  | fuel + 1, _, _, _, h => ⟨h.1, fun i hi => wpOp_mono (fun a' w' h' => wpAnyL.any fuel _ a' w' h'.2) (h.2 i hi)⟩

/-- What is steady in the class, and ready, may be taken first, if whatever is done keeps to the class. -/
theorem wpAnyL_first {q : Nat} {J : World → Prop} {i : Nat} {oi : Oper} {v : Value} (hi : ops[i]? = some oi) (hiq : i ≠ q) (hbq : ∀ oq, ops[q]? = some oq → ∃ e ∈ oq.after, Region.binds md e = true ∧ e.on = i) (hsel : ∀ (j : Nat) (o : Oper) cs b, ops[j]? = some o → o.op ≠ .select cs b)
    (hQ : ∀ c a w, Q (.panic c) (a.put oi.dst v) w → Q (.panic c) a w) :
    ∀ (fuel : Nat) (listed : Array Bool) (a : Act) (w : World),
      (∀ j oj, ops[j]? = some oj → j ≠ i → listed.getD j true = false → (∀ e ∈ oj.after, Region.binds md e = true → e.on ≠ i) → oi.apart ops oj = true) →
      i ∈ Region.ready md ops listed → J w → Steady P ops J oi v a →
      wpAnyL P md ops Q q J fuel (listed.setIfInBounds i true) (a.put oi.dst v) w → wpAnyL P md ops Q q J (fuel + 1) listed a w := by
  intro fuel
  induction fuel with
  | zero =>
    intro listed a w _ hr hJ hy H
    refine ⟨fun h => (by rw [h] at hr; cases hr), fun j hj => ?_⟩
    by_cases hji : j = i
    · subst hji; exact hy.wpOp hi hJ ⟨fun _ => hJ, H⟩
    · have := ready_mono hj hji
      rw [H.1] at this
      cases this
  | succ fuel ih =>
    intro listed a w hfree hr hJ hy H
    refine ⟨fun h => (by rw [h] at hr; cases hr), fun j hj => ?_⟩
    by_cases hji : j = i
    · subst hji; exact hy.wpOp hi hJ ⟨fun _ => hJ, H⟩
    · have h1 := H.2 j (ready_mono hj hji)
      obtain ⟨hjun, oj, hoj, hall⟩ := mem_ready.1 hj
      have hnot : ∀ e ∈ oj.after, Region.binds md e = true → e.on ≠ i := fun e he hb heq => by
        have h1 := hall e he hb
        have h0 := (mem_ready.1 hr).1
        rw [heq] at h1
        rcases Nat.lt_or_ge i listed.size with h' | h'
        · simp [h'] at h0 h1; rw [h0] at h1; cases h1
        · simp [Array.getElem?_eq_none h'] at h1
      have hjq : j ≠ q := fun e => by obtain ⟨e', he', hb', ho'⟩ := hbq oj (by rw [← e]; exact hoj); exact hnot e' he' hb' ho'
      have hap := hfree j oj hoj hji hjun hnot
      have h3 := (Oper.apart_spec hap).2.2
      have h2 := wpOp_ahead (Y := Steady P ops J oi v) hoj hap (fun cs b => hsel j oj cs b hoj) hQ
        (fun b u hb => hb.of_same (execOp_put oi (fun cs b => hsel i oi cs b hi) b oj.dst u h3) (wanted_put oi b oj.dst u h3)) (fun b d hb => hb.of_same rfl rfl) hy h1
      have hfree' : ∀ k ok, ops[k]? = some ok → k ≠ i → (listed.setIfInBounds j true).getD k true = false →
          (∀ e ∈ ok.after, Region.binds md e = true → e.on ≠ i) → oi.apart ops ok = true := fun k ok hk hki hun hno => by
        refine hfree k ok hk hki ?_ hno
        by_cases hjk : j = k
        · subst hjk; exact hjun
        · rw [getD_set_ne true hjk] at hun; exact hun
      refine wpOp_mono (fun a' w' h4 => ⟨h4.2.1, ih (listed.setIfInBounds j true) a' w' hfree' (ready_mono hr (Ne.symm hji)) (h4.2.1 hjq) h4.1 ?_⟩) h2
      rw [Array.setIfInBounds_comm _ _ hji]
      exact h4.2.2


def takeableL (md : Region.Mode) (ops : Array Oper) (q : Nat) : List Nat → Array Bool → Bool
  | [], _ => true
  | i :: is, listed => (Region.ready md ops listed).contains i && Region.free md ops listed i && (match ops[i]? with | some o => plainOp2 o.op | none => false) && (i != q && match ops[q]? with | some oq => oq.after.any (fun e => Region.binds md e && e.on == i) | none => false) && takeableL md ops q is (listed.setIfInBounds i true)
theorem wpAnyL_stretch {q : Nat} {I : World → Prop} (hs : Region.noSelect ops = true) (hQ : ∀ c (a : Act) d v w, Q (.panic c) (a.put (some d) v) w → Q (.panic c) a w) {fuel : Nat} {w : World} (hI : I w) :
    ∀ (is : List Nat) (listed : Array Bool) (a : Act), takeableL md ops q is listed = true →
      wpQuiet P ops I (fun a' => wpAnyL P md ops Q q I fuel (listedBehind is listed) a' w) (is.filterMap fun i => ops[i]?) a → wpAnyL P md ops Q q I (is.length + fuel) listed a w
  | [], listed, a, _, h => by simpa [wpQuiet, listedBehind] using h
  | i :: is, listed, a, ht, h => by
    simp only [takeableL, Bool.and_eq_true] at ht
    obtain ⟨⟨⟨⟨hr, hf⟩, hp⟩, hiq, hbq⟩, ht'⟩ := ht
    cases ho : ops[i]? with
    | none => rw [ho] at hp; cases hp
    | some o =>
      rw [ho] at hp
      rw [List.filterMap_cons, ho] at h
      obtain ⟨v, hv, hK⟩ := steady_of_quiet2 hp h
      have := wpAnyL_first (q := q) ho (by simpa using hiq) (fun oq hoq => by
          rw [hoq] at hbq
          obtain ⟨e, he, hb⟩ := Array.any_eq_true'.1 hbq
          simp only [Bool.and_eq_true, beq_iff_eq] at hb
          exact ⟨e, he, hb.1, hb.2⟩) (Region.noSelect_spec hs) (fun c a w h => by cases hd : o.dst with | none => rw [hd] at h; exact h | some d => rw [hd] at h; exact hQ c a d v w h) (is.length + fuel) listed a w (Region.free_spec ho hf) (by simpa using hr) hI hv (wpAnyL_stretch hs hQ hI is _ _ ht' hK)
      rw [List.length_cons, Nat.add_right_comm]
      exact this
theorem stretchL {q : Nat} {I : World → Prop} (hs : Region.noSelect ops = true) (hQ : ∀ c (a : Act) d v w, Q (.panic c) (a.put (some d) v) w → Q (.panic c) a w) {fuel : Nat} {w : World} (hI : I w)
    (is : List Nat) {listed : Array Bool} {a : Act} (ht : takeableL md ops q is listed = true)
    (h : wpQuiet P ops (fun x => ∃ u : Mem I, x = u.w') (fun a' => wpAnyL P md ops Q q I fuel (listedBehind is listed) a' w) (is.filterMap fun i => ops[i]?) a) : wpAnyL P md ops Q q I (is.length + fuel) listed a w := by
  have e : (fun x => ∃ u : Mem I, x = u.w') = I := funext fun x => propext ⟨fun ⟨u, hu⟩ => hu ▸ u.h, fun hx => ⟨⟨x, hx⟩, rfl⟩⟩
  rw [e] at h
  exact wpAnyL_stretch hs hQ hI is listed a ht h
theorem wpAnyL_one {q : Nat} {J : World → Prop} {i fuel : Nat} {o : Oper} {listed : Array Bool} {a : Act} {w : World} (ho : ops[i]? = some o) (hw : Region.wanted o (yielded ops a.tmps) = true)
    (h : ∀ K : Act → World → Prop, (∀ a' w', (i ≠ q → J w') → wpAnyL P md ops Q q J fuel (listed.setIfInBounds i true) a' w' → K a' w') → Oper.wp P o a w K Q) :
    wpOp P ops Q i (fun a' w' => (i ≠ q → J w') ∧ wpAnyL P md ops Q q J fuel (listed.setIfInBounds i true) a' w') a w := by
  unfold wpOp
  simp only [ho]
  rw [if_pos hw]
  exact .inl (h _ (fun _ _ h1 h2 => ⟨h1, h2⟩))
theorem writerL {q : Nat} {J : World → Prop} {i fuel : Nat} {o : Oper} {listed : Array Bool} {a : Act} {w : World} (ho : ops[i]? = some o) (hr : Region.ready md ops listed = [i]) (hw : Region.wanted o (yielded ops a.tmps) = true)
    (h : ∀ K : Act → World → Prop, (∀ a' w', (i ≠ q → J w') → wpAnyL P md ops Q q J fuel (listed.setIfInBounds i true) a' w' → K a' w') → Oper.wp P o a w K Q) : wpAnyL P md ops Q q J (fuel + 1) listed a w := by
  refine ⟨fun h0 => (by rw [hr] at h0; cases h0), fun j hj => ?_⟩
  rw [hr, List.mem_singleton] at hj
  subst hj
  exact wpAnyL_one ho hw h
theorem twoL {q : Nat} {J : World → Prop} {i j fuel : Nat} {o o' : Oper} {listed : Array Bool} {a : Act} {w : World} (ho : ops[i]? = some o) (ho' : ops[j]? = some o') (hr : Region.ready md ops listed = [i, j]) (hw : Region.wanted o (yielded ops a.tmps) = true) (hw' : Region.wanted o' (yielded ops a.tmps) = true)
    (h : ∀ K : Act → World → Prop, (∀ a' w', (i ≠ q → J w') → wpAnyL P md ops Q q J fuel (listed.setIfInBounds i true) a' w' → K a' w') → Oper.wp P o a w K Q)
    (h' : ∀ K : Act → World → Prop, (∀ a' w', (j ≠ q → J w') → wpAnyL P md ops Q q J fuel (listed.setIfInBounds j true) a' w' → K a' w') → Oper.wp P o' a w K Q) :
    wpAnyL P md ops Q q J (fuel + 1) listed a w := by
  refine ⟨fun h0 => (by rw [hr] at h0; cases h0), fun k hk => ?_⟩
  rw [hr] at hk
  simp only [List.mem_cons, List.not_mem_nil, or_false] at hk
  rcases hk with rfl | rfl
  · exact wpAnyL_one ho hw h
  · exact wpAnyL_one ho' hw' h'
theorem doneL {q : Nat} {J : World → Prop} {fuel : Nat} {listed : Array Bool} {a : Act} {w : World} (hr : Region.ready md ops listed = []) (h : Q .normal a w) : wpAnyL P md ops Q q J fuel listed a w := by
  cases fuel with
  | zero => exact ⟨hr, h⟩
  | succ n => exact ⟨fun _ => h, by rw [hr]; simp⟩
theorem startL (q : Nat) {id : Nat} {J : World → Prop} {a : Act} {w : World} (hm : P.follows .mixedOrders = true) (h : wpAnyL P .any ops Q q J ops.size (Array.replicate ops.size false) a w.drew) : (Code.region id ops true).wp P Q a w :=
  wp_region_any hm (wpAnyL.any _ _ _ _ h)
end
end Go.Proofs.YtgenkjmcddjaoaaGreat

namespace Go.Proofs.YtgenkjmcddjaoaaGreat
open Go.RowKit

def takeO (P T : Int) (d : Bool) (t : Int) : Obj := .cells #[.int .i64 P, .int .i64 T, .bool d, .int .i64 t] 115 (0, 0)
def leaveO (P T : Int) (d : Bool) : Obj := .cells #[.int .i64 P, .int .i64 T, .bool d] 117 (0, 0)
/-- May a thread take it? -/
def mayTake (P T t : Int) : Bool := Lay.may P T && (decide (0 ≤ t) && decide (t < T))

theorem newTakeNo (P T t : Int) (h : mayTake P T t = false) (w : World) :
    Calls Tryz.prog 16 #[.agg #[.int .i64 P, .int .i64 T], .int .i64 t] w fun e w' => e = .returned (.pointer none) ∧ Below w.heap.size w w' := by
  have M := hide (fun w => lmay P T w)
  unfold mayTake at h
  cases hm : Lay.may P T
  · rw [hm] at M
    clear h hm
    go_enter Tryz.func16, Tryz.ntmps16
    have B0 := LBox.new w P T 59
    have c0 := B0.c0
    have c1 := B0.c1
    go_wp2_with fail
    refine (M.out _).mono ?_
    rintro e w1 ⟨rfl, hb⟩
    have B1 := LBox.grow (by assumption) hb
    have c0 := B1.c0
    have c1 := B1.c1
    go_wp2
    go_ret
    exact ⟨rfl, B1.below⟩
  · rw [hm] at M h
    by_cases h0 : t < 0
    · have d0 : decide (t < 0) = true := by simp; omega
      clear h hm h0
      go_enter Tryz.func16, Tryz.ntmps16
      have B0 := LBox.new w P T 59
      have c0 := B0.c0
      have c1 := B0.c1
      go_wp2_with fail
      refine (M.out _).mono ?_
      rintro e w1 ⟨rfl, hb⟩
      have B1 := LBox.grow (by assumption) hb
      have c0 := B1.c0
      have c1 := B1.c1
      go_wp2
      go_ret
      exact ⟨rfl, B1.below⟩
    · have d0 : decide (t < 0) = false := by simp; omega
      have h1 : ¬ t < T := fun q => by
        rw [decide_eq_true (show 0 ≤ t by omega), decide_eq_true q] at h
        exact absurd h (by decide)
      have d1 : decide (t ≥ T) = true := by simp; omega
      have d1' : decide (T ≤ t) = true := by simp; omega
      clear h hm h0 h1
      go_enter Tryz.func16, Tryz.ntmps16
      have B0 := LBox.new w P T 59
      have c0 := B0.c0
      have c1 := B0.c1
      go_wp2_with fail
      refine (M.out _).mono ?_
      rintro e w1 ⟨rfl, hb⟩
      have B1 := LBox.grow (by assumption) hb
      have c0 := B1.c0
      have c1 := B1.c1
      go_wp2
      go_ret
      exact ⟨rfl, B1.below⟩
theorem newTakeYes (P T t : Int) (h : mayTake P T t = true) (w : World) :
    Calls Tryz.prog 16 #[.agg #[.int .i64 P, .int .i64 T], .int .i64 t] w fun e w' => ∃ m, e = .returned (.pointer (some ⟨m, 0, none⟩)) ∧ w'.heap[m]? = some (takeO P T false t) ∧ w.heap.size ≤ m ∧ Below w.heap.size w w' := by
  have M := hide (fun w => lmay P T w)
  unfold mayTake at h
  simp only [Bool.and_eq_true, decide_eq_true_eq] at h
  obtain ⟨hm, h0, h1⟩ := h
  rw [hm] at M
  have d0 : decide (t < 0) = false := by simp; omega
  have d1 : decide (t ≥ T) = false := by simp; omega
  have d1' : decide (T ≤ t) = false := by simp; omega
  clear hm h0 h1
  go_enter Tryz.func16, Tryz.ntmps16
  have B0 := LBox.new w P T 59
  have c0 := B0.c0
  have c1 := B0.c1
  go_wp2_with fail
  refine (M.out _).mono ?_
  rintro e w1 ⟨rfl, hb⟩
  have B1 := LBox.grow (by assumption) hb
  have c0 := B1.c0
  have c1 := B1.c1
  go_wp2
  go_ret
  exact ⟨_, rfl, heap_alloc_at _ _, B1.below.size, B1.below.alloc B1.below.size _⟩
theorem newLeaveNo (P T : Int) (h : Lay.may P T = false) (w : World) :
    Calls Tryz.prog 17 #[.agg #[.int .i64 P, .int .i64 T]] w fun e w' => e = .returned (.pointer none) ∧ Below w.heap.size w w' := by
  have M := hide (fun w => lmay P T w)
  rw [h] at M
  clear h
  go_enter Tryz.func17, Tryz.ntmps17
  have B0 := LBox.new w P T 59
  have c0 := B0.c0
  have c1 := B0.c1
  go_wp2_with fail
  refine (M.out _).mono ?_
  rintro e w1 ⟨rfl, hb⟩
  have B1 := LBox.grow (by assumption) hb
  go_wp2
  go_ret
  exact ⟨rfl, B1.below⟩
theorem newLeaveYes (P T : Int) (h : Lay.may P T = true) (w : World) :
    Calls Tryz.prog 17 #[.agg #[.int .i64 P, .int .i64 T]] w fun e w' => ∃ m, e = .returned (.pointer (some ⟨m, 0, none⟩)) ∧ w'.heap[m]? = some (leaveO P T false) ∧ w.heap.size ≤ m ∧ Below w.heap.size w w' := by
  have M := hide (fun w => lmay P T w)
  rw [h] at M
  clear h
  go_enter Tryz.func17, Tryz.ntmps17
  have B0 := LBox.new w P T 59
  have c0 := B0.c0
  have c1 := B0.c1
  go_wp2_with fail
  refine (M.out _).mono ?_
  rintro e w1 ⟨rfl, hb⟩
  have B1 := LBox.grow (by assumption) hb
  have c0 := B1.c0
  have c1 := B1.c1
  go_wp2
  go_ret
  exact ⟨_, rfl, heap_alloc_at _ _, B1.below.size, B1.below.alloc B1.below.size _⟩
end Go.Proofs.YtgenkjmcddjaoaaGreat

namespace Go.Proofs.YtgenkjmcddjaoaaGreat
open Go.RowKit

/-- What lies of an arena, as facts that worlds above keep. -/
structure ArAt (q : Nat) (P T : Int) (p r n : Nat) (w : World) : Prop where
  hd : w.heap[q]? = some (.cells #[.int .i64 P, .int .i64 T, .pointer (some ⟨p, 0, none⟩), .pointer (some ⟨r, 0, none⟩)] 126 (0, 0))
  st : ∃ b s, StoreAt 85 w p b s ∧ s.words.length = n
theorem ArAt.below {q : Nat} {P T : Int} {p r n : Nat} {w w' : World} (k : ArAt q P T p r n w) (b : Below w.heap.size w w') : ArAt q P T p r n w' := by
  obtain ⟨c, s, h, e⟩ := k.st
  exact ⟨(b.block _ (lt_of_heap k.hd)).trans k.hd, c, s, h.below b, e⟩
theorem ArAt.of {R : Res} {w0 w : World} {q : Nat} {P T : Int} {p r : Nat} {s : St} {pg : Nat} {ds : List Nat} {dn : Nat} {L : RL} (h : Own (Sep (AX q P T p r s pg ds dn L) R) w0 w) : ArAt q P T p r s.words.length w := by
  obtain ⟨b, hS⟩ := AX.st h
  exact ⟨AX.head h, b, s, hS, rfl⟩
theorem ArAt.layout {q : Nat} {P T : Int} {p r n : Nat} {w : World} (k : ArAt q P T p r n w) :
    Calls Tryz.prog 29 #[.pointer (some ⟨q, 0, none⟩)] w fun e w' => e = .returned (.agg #[.int .i64 P, .int .i64 T]) ∧ Below w.heap.size w w' := by
  have c0 : w.cell? ⟨q, 0, none⟩ = some (.int .i64 P) := cell_of_heap k.hd
  have c1 : w.cell? ⟨q, 1, none⟩ = some (.int .i64 T) := cell_of_heap k.hd
  have d0 : ∀ o, (w.alloc o).cell? ⟨q, 0, none⟩ = some (.int .i64 P) := fun o => cell_of_heap (heap_alloc_old k.hd)
  have d1 : ∀ o, (w.alloc o).cell? ⟨q, 1, none⟩ = some (.int .i64 T) := fun o => cell_of_heap (heap_alloc_old k.hd)
  clear k
  go_enter Tryz.func29, Tryz.ntmps29
  go_wp2
  go_returns
  exact ⟨rfl, grown1 _ _⟩
theorem ArAt.store {q : Nat} {P T : Int} {p r n : Nat} {w : World} (k : ArAt q P T p r n w) :
    Calls Tryz.prog 31 #[.pointer (some ⟨q, 0, none⟩)] w fun e w' => e = .returned (.pointer (some ⟨p, 0, none⟩)) ∧ Below w.heap.size w w' := by
  have c2 : w.cell? ⟨q, 2, none⟩ = some (.pointer (some ⟨p, 0, none⟩)) := cell_of_heap k.hd
  clear k
  go_enter Tryz.func31, Tryz.ntmps31
  go_wp2
  go_ret
  exact ⟨rfl, Below.refl _ _⟩
theorem ArAt.len {q : Nat} {P T : Int} {p r n : Nat} {w : World} (k : ArAt q P T p r n w) :
    Calls Tryz.prog 102 #[.pointer (some ⟨p, 0, none⟩)] w fun e w' => e = .returned (.int .i64 (n : Int)) ∧ Below w.heap.size w w' := by
  obtain ⟨b, s, h, e⟩ := k.st
  rw [← e]
  exact (len_of w p b s h).mono fun _ _ ⟨h1, h2⟩ => ⟨h1, by rw [h2]; exact Below.refl _ _⟩
end Go.Proofs.YtgenkjmcddjaoaaGreat

namespace Go.Proofs.YtgenkjmcddjaoaaGreat
open Go.RowKit

theorem ArAt.hasLock {q : Nat} {P T : Int} {p r n : Nat} {w : World} (k : ArAt q P T p r n w) (hn : 2 < n) :
    Calls Tryz.prog 57 #[.pointer (some ⟨q, 0, none⟩)] w fun e w' => e = .returned (.bool true) ∧ Below w.heap.size w w' := by
  have K := hide k
  have dn : decide ((n : Int) > 2) = true := by simp; omega
  have dn' : decide (2 < n) = true := by simp; omega
  clear k hn
  go_enter Tryz.func57, Tryz.ntmps57
  go_wp2_with fail
  refine K.out.store.mono ?_
  rintro e w1 ⟨rfl, b1⟩
  have K1 := hide (K.out.below b1)
  have HB1 := hide b1
  clear b1 K
  go_wp2_with fail
  refine K1.out.len.mono ?_
  rintro e w2 ⟨rfl, b2⟩
  have HB2 := hide (HB1.out.trans (b2.mono HB1.out.size))
  clear b2 K1 HB1
  go_wp2
  go_ret
  exact ⟨rfl, HB2.out⟩
theorem hasLockNil (w : World) :
    Calls Tryz.prog 57 #[.pointer none] w fun e w' => e = .returned (.bool false) ∧ Below w.heap.size w w' := by
  go_enter Tryz.func57, Tryz.ntmps57
  go_wp2_with fail
  refine (storeNil _).mono ?_
  rintro e w1 ⟨rfl, rfl⟩
  go_wp2_with fail
  refine (len_nil _).mono ?_
  rintro e w1 ⟨rfl, rfl⟩
  go_wp2
  go_ret
  exact ⟨rfl, Below.refl _ _⟩

/-- The three cells that a take and a leave have in common, in block m. -/
structure TurnL (m : Nat) (P T : Int) (d : Bool) (w : World) : Prop where
  c0 : w.cell? ⟨m, 0, none⟩ = some (.int .i64 P)
  c1 : w.cell? ⟨m, 1, none⟩ = some (.int .i64 T)
  c2 : w.cell? ⟨m, 2, none⟩ = some (.bool d)
theorem TurnL.take {w : World} {m : Nat} {P T t : Int} {d : Bool} (e : w.heap[m]? = some (takeO P T d t)) : TurnL m P T d w := ⟨cell_of_heap e, cell_of_heap e, cell_of_heap e⟩
theorem TurnL.leave {w : World} {m : Nat} {P T : Int} {d : Bool} (e : w.heap[m]? = some (leaveO P T d)) : TurnL m P T d w := ⟨cell_of_heap e, cell_of_heap e, cell_of_heap e⟩

theorem mayDoneL (w : World) (m : Nat) (P T : Int) (k : TurnL m P T true w) (qa : Option Addr) :
    Calls Tryz.prog 52 #[.pointer (some ⟨m, 0, none⟩), .pointer qa] w fun e w' => e = .returned (.bool false) ∧ Below w.heap.size w w' := by
  have c2 := k.c2
  clear k
  have hne : Nonempty (Over w) := ⟨⟨_, Below.refl _ _⟩⟩
  have u2 := fun u => over_cell c2 u
  go_enter Tryz.func52, Tryz.ntmps52
  go_wp2
  refine over_region (by kernel_rfl) (by kernel_rfl) ?_
  repeat (go_big_quiet_step (fail))
  refine wpQuiet_nil ?_
  rintro _ ⟨u, rfl⟩
  go_wp2
  go_ret
  exact ⟨rfl, u.h⟩

theorem mayNilL (w : World) (m : Nat) (P T : Int) (k : TurnL m P T false w) (hP : 1 ≤ P) :
    Calls Tryz.prog 52 #[.pointer (some ⟨m, 0, none⟩), .pointer none] w fun e w' => e = .returned (.bool false) ∧ Below w.heap.size w w' := by
  have c2 := k.c2
  have c0 := k.c0
  have c1 := k.c1
  clear k
  have dP : ((0 : Int) == P) = false := by rw [beq_eq_false_iff_ne]; omega
  clear hP
  have hne : Nonempty (Over w) := ⟨⟨_, Below.refl _ _⟩⟩
  have u0 := fun u => over_cell c0 u
  have u1 := fun u => over_cell c1 u
  have u2 := fun u => over_cell c2 u
  go_enter Tryz.func52, Tryz.ntmps52
  go_wp2
  refine over_region (by kernel_rfl) (by kernel_rfl) ?_
  repeat (go_big_quiet_step (first | (go_at_call 29; exact over_call _ (layoutNil _))))
  refine wpQuiet_nil ?_
  rintro _ ⟨u, rfl⟩
  go_wp2
  go_ret
  exact ⟨rfl, u.h⟩

set_option maxHeartbeats 2000000 in
theorem mayYesL (w : World) (m : Nat) (P T : Int) (k : TurnL m P T false w) (q p r n : Nat) (ka : ArAt q P T p r n w) (hn : 2 < n) :
    Calls Tryz.prog 52 #[.pointer (some ⟨m, 0, none⟩), .pointer (some ⟨q, 0, none⟩)] w fun e w' => e = .returned (.bool true) ∧ Below w.heap.size w w' := by
  have KA := fun u : Over w => hide (ka.below u.h)
  have c2 := k.c2
  have c0 := k.c0
  have c1 := k.c1
  clear k ka
  have hne : Nonempty (Over w) := ⟨⟨_, Below.refl _ _⟩⟩
  have u0 := fun u => over_cell c0 u
  have u1 := fun u => over_cell c1 u
  have u2 := fun u => over_cell c2 u
  go_enter Tryz.func52, Tryz.ntmps52
  go_wp2
  refine over_region (by kernel_rfl) (by kernel_rfl) ?_
  repeat (go_big_quiet_step (first | (go_at_call 29; exact over_call _ (KA _).out.layout) | (go_at_call 57; exact over_call _ ((KA _).out.hasLock hn))))
  refine wpQuiet_nil ?_
  rintro _ ⟨u, rfl⟩
  go_wp2
  go_ret
  exact ⟨rfl, u.h⟩
set_option maxHeartbeats 2000000 in
theorem mayNoL (w : World) (m : Nat) (P T : Int) (k : TurnL m P T false w) (q p r n : Nat) (P' T' : Int) (ka : ArAt q P' T' p r n w) (hn : P' ≠ P ∨ T' ≠ T) :
    Calls Tryz.prog 52 #[.pointer (some ⟨m, 0, none⟩), .pointer (some ⟨q, 0, none⟩)] w fun e w' => e = .returned (.bool false) ∧ Below w.heap.size w w' := by
  have KA := fun u : Over w => hide (ka.below u.h)
  have c2 := k.c2
  have c0 := k.c0
  have c1 := k.c1
  clear k ka
  have hne : Nonempty (Over w) := ⟨⟨_, Below.refl _ _⟩⟩
  have u0 := fun u => over_cell c0 u
  have u1 := fun u => over_cell c1 u
  have u2 := fun u => over_cell c2 u
  by_cases hp : P' = P
  · subst hp
    have dt : (T' == T) = false := by rw [beq_eq_false_iff_ne]; exact hn.resolve_left (fun h => h rfl)
    clear hn
    go_enter Tryz.func52, Tryz.ntmps52
    go_wp2
    refine over_region (by kernel_rfl) (by kernel_rfl) ?_
    repeat (go_big_quiet_step (first | (go_at_call 29; exact over_call _ (KA _).out.layout)))
    refine wpQuiet_nil ?_
    rintro _ ⟨u, rfl⟩
    go_wp2
    go_ret
    exact ⟨rfl, u.h⟩
  · have dp : (P' == P) = false := by rw [beq_eq_false_iff_ne]; exact hp
    clear hn hp
    go_enter Tryz.func52, Tryz.ntmps52
    go_wp2
    refine over_region (by kernel_rfl) (by kernel_rfl) ?_
    repeat (go_big_quiet_step (first | (go_at_call 29; exact over_call _ (KA _).out.layout)))
    refine wpQuiet_nil ?_
    rintro _ ⟨u, rfl⟩
    go_wp2
    go_ret
    exact ⟨rfl, u.h⟩

theorem heldNil (w : World) : Calls Tryz.prog 24 #[.pointer none] w fun e w' => e = .returned (.int .i64 (-1)) ∧ Below w.heap.size w w' := by
  go_enter Tryz.func24, Tryz.ntmps24
  go_wp2_with fail
  refine (hasLockNil _).mono ?_
  rintro e w1 ⟨rfl, b1⟩
  have HB := hide b1
  clear b1
  go_wp2
  go_ret
  exact ⟨rfl, HB.out⟩

section
variable {R : Res} {w0 w : World} {q : Nat} {P T : Int} {p r : Nat} {s : St} {pg : Nat} {ds : List Nat} {dn : Nat} {L : RL}
/-- A store asked through a copy: nothing lies otherwise behind it. -/
theorem aside {w w3 : World} {b p' : Nat} {s : St} {o : Obj} {i : Nat} (hS : StoreAt 85 w p b s) (hS3 : StoreAt 85 w3 p' b (s.load i)) (ho : Only (fun k => k = p' ∨ k = b) (w.alloc o) w3) (hp : p' = w.heap.size) : Below w.heap.size w w3 := by
  refine ⟨ho.os, ho.tape, ho.output, Nat.le_trans (by simp) ho.size, fun k hk => ?_⟩
  by_cases e : k = b
  · subst e
    rw [hS3.row, hS.row]
    simp only [St.load, St.access]
    rw [set_getD]
  · rw [ho.block k (by simp; omega) (by rintro (e' | e'); omega; exact e e'), Below.heap_alloc _ _ _ hk]

theorem layField1 (a b : Value) (w : World) : (Instr.field 59 (.agg #[a, b]) 1).run Tryz.prog w = .ok b w := by kernel_rfl
set_option maxRecDepth 100000 in
set_option maxHeartbeats 1000000 in
theorem heldX (l : Loc R) (h : Own (Sep (AX q P T p r s pg ds dn L) R) w0 w) (hs : 2 < s.words.length) (x : Nat) (hx : s.words.getD 2 0 = x) (hT : (x : Int) ≤ T) (hT2 : T ≤ 1000) :
    Calls Tryz.prog 24 #[.pointer (some ⟨q, 0, none⟩)] w fun e w' => e = .returned (.int .i64 ((x : Int) - 1)) ∧ Own (Sep (AX q P T p r s pg ds dn L) R) w0 w' := by
  have HO := hide h
  have HS2 := hide hs
  have HX := hide hx
  clear h hx hs
  go_enter Tryz.func24, Tryz.ntmps24
  go_wp2_with fail
  refine ((ArAt.of HO.out).hasLock HS2.out).mono ?_
  rintro e w1 ⟨rfl, b1⟩
  have O1 := hide (HO.out.below (Loc.ax.sep l) b1)
  clear b1 HO
  have e2 : w1.cell? ⟨q, 2, none⟩ = some (.pointer (some ⟨p, 0, none⟩)) := cell_of_heap (AX.head O1.out)
  obtain ⟨b, hS⟩ := AX.st O1.out
  have c0 : w1.cell? ⟨p, 0, none⟩ = some (.slice (some ⟨b, 0, none⟩) s.words.length s.words.length) := cell_of_heap hS.head
  have c1 : w1.cell? ⟨p, 1, none⟩ = some (.int .i64 s.kind) := cell_of_heap hS.head
  have c2 : w1.cell? ⟨p, 2, none⟩ = some (.int .i64 s.place) := cell_of_heap hS.head
  have c3 : w1.cell? ⟨p, 3, none⟩ = some (.int .u64 s.old) := cell_of_heap hS.head
  have c4 : w1.cell? ⟨p, 4, none⟩ = some (.int .u64 s.new) := cell_of_heap hS.head
  have c5 : w1.cell? ⟨p, 5, none⟩ = some (.int .i64 s.count) := cell_of_heap hS.head
  have HS := hide hS
  have HC := hide (s_load _ _ b _ hS.copy 2 HS2.out)
  rw [HX.out] at HC
  clear hS
  go_wp2_with fail
  refine (storeX O1.out).mono ?_
  rintro e w2 ⟨rfl, rfl⟩
  go_wp2_with fail
  refine HC.out.mono ?_
  rintro e w3 ⟨rfl, hS3, ho⟩
  have O3 := hide (O1.out.below (Loc.ax.sep l) (aside HS.out hS3 ho rfl))
  clear hS3 ho c0 c1 c2 c3 c4 c5 e2 HS O1 HC
  by_cases hx0 : x = 0
  · have d0 : ((x : Int) == 0) = true := by simp [hx0]
    have d0' : (x == 0) = true := by simp [hx0]
    have hv : Hid ((x : Int) - 1 = -1) := hide (by omega)
    clear hx0 HX
    go_wp2
    go_ret
    exact ⟨by rw [hv.out]; rfl, O3.out⟩
  · have d0 : ((x : Int) == 0) = false := by rw [beq_eq_false_iff_ne]; omega
    have d0' : (x == 0) = false := by rw [beq_eq_false_iff_ne]; omega
    have dT : decide ((x : Int) > T) = false := by simp; omega
    have dT' : decide (T < (x : Int)) = false := by simp; omega
    have h0T : 0 ≤ T := by omega
    have hx1 : 1 ≤ x := by omega
    clear hx0
    go_wp2_with fail
    refine (layoutX O3.out).mono ?_
    rintro e w4 ⟨rfl, b4⟩
    have O4 := hide (O3.out.below (Loc.ax.sep l) b4)
    clear b4 O3
    have lf := layField1
    go_wp2
    go_ret
    exact ⟨ret_int (by first | rfl | omega | (rw [IntKind.wrap_i64]; omega)), O4.out⟩
end
end Go.Proofs.YtgenkjmcddjaoaaGreat

namespace Go.Proofs.YtgenkjmcddjaoaaGreat
open Go.RowKit

theorem lk_cas_words (s : St) (n : Nat) : (s.cas 2 0 n).words = if s.words.getD 2 0 = 0 then s.words.set 2 n else s.words := by
  unfold St.cas
  split
  · rfl
  · exact set_getD _ _
theorem lk_cas_len (s : St) (n : Nat) : (s.cas 2 0 n).words.length = s.words.length := by
  rw [lk_cas_words]; split <;> simp
theorem lk_put_len (s : St) : (s.put 2 0).words.length = s.words.length := put_len s 2 0
theorem lk_cas_at (s : St) (n : Nat) (h : 2 < s.words.length) : (s.cas 2 0 n).words.getD 2 0 = if s.words.getD 2 0 = 0 then n else s.words.getD 2 0 := by
  rw [lk_cas_words]
  split
  · simp [h]
  · rfl
theorem lk_put_at (s : St) (h : 2 < s.words.length) : (s.put 2 0).words.getD 2 0 = 0 := put_same s 2 0 h
theorem lk_cas_kind (s : St) (n : Nat) : (s.cas 2 0 n).kind = if s.words.getD 2 0 = 0 then 3 else 4 := by
  unfold St.cas
  split <;> rfl
theorem lk_put_kind (s : St) : (s.put 2 0).kind = 2 := rfl
end Go.Proofs.YtgenkjmcddjaoaaGreat

namespace Go.Proofs.YtgenkjmcddjaoaaGreat
open Go.RowKit

def didZ : Obj := .cells #[.int .i64 0, .int .i64 0, .int .u64 0, .int .u64 0] 27 (0, 0)

section
variable {R : Res} {w0 w : World} {m : Nat} {q : Nat} {P T : Int} {p r : Nat} {s : St} {pg : Nat} {ds : List Nat} {dn : Nat} {L : RL}

theorem lkCas (l : Loc R) (h : Own (Sep (AX q P T p r s pg ds dn L) R) w0 w) (hi : 2 < s.words.length) (t : Nat) (ht : t < 1000) (x : Nat) (hx : s.words.getD 2 0 = x) (c : Int) (hc : (if x = 0 then 0 else 5) = c) (s' : St) (hs : s.cas 2 0 (t + 1) = s') :
    Calls Tryz.prog 53 #[.pointer (some ⟨p, 0, none⟩), .int .i64 2, .int .u64 0, .int .u64 ((t : Int) + 1)] w fun e w' => e = .returned (.tuple #[.int .u64 (x : Int), .int .i64 c]) ∧ Own (Sep (AX q P T p r s' pg ds dn L) R) w0 w' := by
  obtain ⟨b, hS, k⟩ := (h.cast AX.toStore).store l.one
  have hcc : s.casCode 2 0 = c := by
    unfold St.casCode
    rw [hx]
    exact hc
  have H := s_cas w p b s hS 2 hi 0 (t + 1) (by omega)
  rw [hx, hcc, hs] at H
  refine H.mono ?_
  rintro e w' ⟨he, h1, h2⟩
  exact ⟨he, (k h1 h2).cast AX.toStore.symm⟩
theorem lkPut (l : Loc R) (h : Own (Sep (AX q P T p r s pg ds dn L) R) w0 w) (hi : 2 < s.words.length) (s' : St) (hs : s.put 2 0 = s') :
    Calls Tryz.prog 55 #[.pointer (some ⟨p, 0, none⟩), .int .i64 2, .int .u64 0] w fun e w' => e = .returned (.int .i64 0) ∧ Own (Sep (AX q P T p r s' pg ds dn L) R) w0 w' := by
  have := putX l h 2 hi 0 (by omega)
  rw [hs] at this
  exact this
theorem lkLast (l : Loc R) (h : Own (Sep (AX q P T p r s pg ds dn L) R) w0 w) :
    Calls Tryz.prog 54 #[.pointer (some ⟨p, 0, none⟩)] w fun e w' => e = .returned s.did ∧ Own (Sep (AX q P T p r s pg ds dn L) R) w0 w' := by
  obtain ⟨b, hS⟩ := AX.st h
  exact (last_of w p b s hS).mono fun _ _ ⟨e, h1⟩ => ⟨e, h.below (Loc.ax.sep l) h1⟩

set_option maxHeartbeats 4000000 in
theorem takeStep (l : Loc R) (t : Nat) (ht : t < 1000) (h : Own (Sep (BO m (takeO P T false (t : Int))) (Sep (AX q P T p r s pg ds dn L) R)) w0 w) (hi : 2 < s.words.length) (ok : Bool) (hok : decide (s.words.getD 2 0 = 0) = ok) (s' : St) (hs : s.cas 2 0 (t + 1) = s') :
    Calls Tryz.prog 19 #[.pointer (some ⟨m, 0, none⟩), .pointer (some ⟨q, 0, none⟩)] w fun e w' => e = .returned s'.did ∧ Own (Sep (BO m (takeO P T ok (t : Int))) (Sep (AX q P T p r s' pg ds dn L) R)) w0 w' := by
  have lR : Loc (Sep (BO w.heap.size didZ) R) := Loc.bo.sep l
  have O1 := hide ((Own.boNew (m := w.heap.size) (o := didZ) (Loc.bo.sep (Loc.ax.sep l)) h (heap_alloc_at w didZ) (Nat.le_refl _) (grown1 w _)).cast (R' := Sep (BO m (takeO P T false (t : Int))) (Sep (AX q P T p r s pg ds dn L) (Sep (BO w.heap.size didZ) R))) (by ac_rfl))
  clear h
  obtain ⟨x, hx⟩ : ∃ x, s.words.getD 2 0 = x := ⟨_, rfl⟩
  obtain ⟨c, hc⟩ : ∃ c : Int, (if x = 0 then 0 else 5) = c := ⟨_, rfl⟩
  have HI := hide hi
  have HX := hide hx
  have HC := hide hc
  have HS := hide hs
  have HOK := hide (show (c == 0) = ok by rw [← hok, hx, ← hc]; by_cases e : x = 0 <;> simp [e])
  clear hi hok hs hx hc
  unfold didZ at O1
  go_enter Tryz.func19, Tryz.ntmps19
  go_wp2_with fail
  generalize w.alloc (.cells #[.int .i64 0, .int .i64 0, .int .u64 0, .int .u64 0] 27) = w1 at *
  generalize w.heap.size = rb at *
  refine (mayYesL w1 m P T (.take (Own.boAt O1.out)) q p r s.words.length (ArAt.of (O1.out.cast BO.swap)) HI.out).mono ?_
  rintro e w2 ⟨rfl, b2⟩
  have O2 := hide (O1.out.below (Loc.bo.sep (Loc.ax.sep lR)) b2)
  clear O1 b2
  go_wp2
  have O3 := hide (O2.out.below (Loc.bo.sep (Loc.ax.sep lR)) ((Alike.drewN w2 1).below _))
  have J1 : Hid (Cel m 3 (.int .i64 (t : Int)) w2.drew) := hide (cell_of_heap (Own.boAt O3.out))
  have hne : Nonempty (Mem (Cel m 3 (.int .i64 (t : Int)))) := ⟨⟨_, J1.out⟩⟩
  have UC3 : ∀ u : Mem (Cel m 3 (.int .i64 (t : Int))), u.w'.cell? ⟨m, 3, none⟩ = some (.int .i64 (t : Int)) := fun u => u.h
  refine region_start (J := Cel m 3 (.int .i64 (t : Int))) (by kernel_rfl) ?_
  refine stretch (fuel := 7) (by kernel_rfl) (fun _ _ _ _ _ h => h) J1.out [0, 2, 3, 4, 5, 6, 7] (by kernel_rfl) ?_
  simp only [List.filterMap_cons, List.filterMap_nil, List.getElem?_toArray, List.getElem?_cons_zero, List.getElem?_cons_succ]
  show wpQuiet _ _ _ _ [_, _, _, _, _, _, _] _
  repeat (go_big_quiet_step (fail))
  refine wpQuiet_nil ?_
  refine wpAnyJ_writer (i := 1) rfl (by kernel_rfl) (fun K' hK => ?_)
  go_simp
  refine (storeX (O3.out.cast BO.swap)).mono ?_
  rintro e w3 ⟨rfl, rfl⟩
  refine hK _ _ J1.out ?_
  clear hK K'
  refine wpAnyJ_writer (i := 8) rfl (by kernel_rfl) (fun K' hK => ?_)
  go_simp
  refine (lkCas (Loc.bo.sep lR) (O3.out.cast BO.swap) HI.out t ht x HX.out c HC.out s' HS.out).mono ?_
  rintro e w4 ⟨rfl, o4⟩
  have O4 := hide (o4.cast BO.swap.symm)
  refine hK _ _ (cell_of_heap (Own.boAt O4.out)) ?_
  clear hK K' o4 O2 O3
  refine stretch (fuel := 0) (by kernel_rfl) (fun _ _ _ _ _ h => h) (cell_of_heap (Own.boAt O4.out)) [9, 10, 11, 12, 13] (by kernel_rfl) ?_
  simp only [List.filterMap_cons, List.filterMap_nil, List.getElem?_toArray, List.getElem?_cons_zero, List.getElem?_cons_succ]
  show wpQuiet _ _ _ _ [_, _, _, _, _] _
  repeat (go_big_quiet_step (fail))
  refine wpQuiet_nil ?_
  refine wpAnyJ_done (by kernel_rfl) ?_
  clear UC3 hne J1
  have y2 : w4.cell? ⟨m, 2, none⟩ = some (.bool false) := cell_of_heap (Own.boAt O4.out)
  have f2 : ∀ o, w4.frozen? ⟨m, o, none⟩ = false := fun o => frozen_of_heap (Own.boAt O4.out)
  have O5 : Hid (Own (Sep (BO m (takeO P T ok (t : Int))) (Sep (AX q P T p r s' pg ds dn L) (Sep (BO rb (.cells #[.int .i64 0, .int .i64 0, .int .u64 0, .int .u64 0] 27 (0, 0))) R))) w0 (w4.setCell ⟨m, 2, none⟩ (.bool ok))) := hide (Own.boSet (Loc.ax.sep lR) O4.out 2 (.bool ok))
  have hck := HOK.out
  clear HOK O4
  go_wp2_with fail
  clear y2 f2 hck
  generalize w4.setCell ⟨m, 2, none⟩ (.bool ok) = w5 at *
  refine (storeX (O5.out.cast BO.swap)).mono ?_
  rintro e w6 ⟨rfl, rfl⟩
  go_wp2_with fail
  refine (lkLast (Loc.bo.sep lR) (O5.out.cast BO.swap)).mono ?_
  rintro e w7 ⟨rfl, o7⟩
  have O7 := hide (o7.cast (R' := Sep (BO rb (.cells #[.int .i64 0, .int .i64 0, .int .u64 0, .int .u64 0] 27 (0, 0))) (Sep (BO m (takeO P T ok (t : Int))) (Sep (AX q P T p r s' pg ds dn L) R))) (by ac_rfl))
  clear o7 O5
  have r0 : w7.cell? ⟨rb, 0, none⟩ = some (.int .i64 0) := cell_of_heap (Own.boAt O7.out)
  have r1 : w7.cell? ⟨rb, 1, none⟩ = some (.int .i64 0) := cell_of_heap (Own.boAt O7.out)
  have r2 : w7.cell? ⟨rb, 2, none⟩ = some (.int .u64 0) := cell_of_heap (Own.boAt O7.out)
  have r3 : w7.cell? ⟨rb, 3, none⟩ = some (.int .u64 0) := cell_of_heap (Own.boAt O7.out)
  have fr : ∀ o, w7.frozen? ⟨rb, o, none⟩ = false := fun o => frozen_of_heap (Own.boAt O7.out)
  unfold St.did
  go_wp2
  refine Own.putDid (Q := bodyPost _ _ _ _ _) (Loc.bo.sep (Loc.ax.sep l)) O7.out ?_
  intro W hW z0 z1 z2 z3
  refine bodyPost_ret (by simp [results, Tryz.results19, z0, z1, z2, z3, go_sem]; try rfl) rfl ?_
  exact ⟨rfl, hW⟩

set_option maxHeartbeats 4000000 in
theorem leaveStep (l : Loc R) (h : Own (Sep (BO m (leaveO P T false)) (Sep (AX q P T p r s pg ds dn L) R)) w0 w) (hi : 2 < s.words.length) (s' : St) (hs : s.put 2 0 = s') :
    Calls Tryz.prog 21 #[.pointer (some ⟨m, 0, none⟩), .pointer (some ⟨q, 0, none⟩)] w fun e w' => e = .returned s'.did ∧ Own (Sep (BO m (leaveO P T true)) (Sep (AX q P T p r s' pg ds dn L) R)) w0 w' := by
  have lR : Loc (Sep (BO w.heap.size didZ) R) := Loc.bo.sep l
  have O1 := hide ((Own.boNew (m := w.heap.size) (o := didZ) (Loc.bo.sep (Loc.ax.sep l)) h (heap_alloc_at w didZ) (Nat.le_refl _) (grown1 w _)).cast (R' := Sep (BO m (leaveO P T false)) (Sep (AX q P T p r s pg ds dn L) (Sep (BO w.heap.size didZ) R))) (by ac_rfl))
  clear h
  have HI := hide hi
  have HS := hide hs
  clear hi hs
  unfold didZ at O1
  go_enter Tryz.func21, Tryz.ntmps21
  go_wp2_with fail
  generalize w.alloc (.cells #[.int .i64 0, .int .i64 0, .int .u64 0, .int .u64 0] 27) = w1 at *
  generalize w.heap.size = rb at *
  refine (mayYesL w1 m P T (.leave (Own.boAt O1.out)) q p r s.words.length (ArAt.of (O1.out.cast BO.swap)) HI.out).mono ?_
  rintro e w2 ⟨rfl, b2⟩
  have O2 := hide (O1.out.below (Loc.bo.sep (Loc.ax.sep lR)) b2)
  clear O1 b2
  go_wp2_with fail
  refine (storeX (O2.out.cast BO.swap)).mono ?_
  rintro e w3 ⟨rfl, rfl⟩
  go_wp2_with fail
  refine (lkPut (Loc.bo.sep lR) (O2.out.cast BO.swap) HI.out s' HS.out).mono ?_
  rintro e w4 ⟨rfl, o4⟩
  have O4 := hide (o4.cast BO.swap.symm)
  clear o4 O2
  have y2 : w4.cell? ⟨m, 2, none⟩ = some (.bool false) := cell_of_heap (Own.boAt O4.out)
  have f2 : ∀ o, w4.frozen? ⟨m, o, none⟩ = false := fun o => frozen_of_heap (Own.boAt O4.out)
  have O5 : Hid (Own (Sep (BO m (leaveO P T true)) (Sep (AX q P T p r s' pg ds dn L) (Sep (BO rb (.cells #[.int .i64 0, .int .i64 0, .int .u64 0, .int .u64 0] 27 (0, 0))) R))) w0 (w4.setCell ⟨m, 2, none⟩ (.bool true))) := hide (Own.boSet (Loc.ax.sep lR) O4.out 2 (.bool true))
  clear O4
  go_wp2_with fail
  clear y2 f2
  generalize w4.setCell ⟨m, 2, none⟩ (.bool true) = w5 at *
  refine (storeX (O5.out.cast BO.swap)).mono ?_
  rintro e w6 ⟨rfl, rfl⟩
  go_wp2_with fail
  refine (lkLast (Loc.bo.sep lR) (O5.out.cast BO.swap)).mono ?_
  rintro e w7 ⟨rfl, o7⟩
  have O7 := hide (o7.cast (R' := Sep (BO rb (.cells #[.int .i64 0, .int .i64 0, .int .u64 0, .int .u64 0] 27 (0, 0))) (Sep (BO m (leaveO P T true)) (Sep (AX q P T p r s' pg ds dn L) R))) (by ac_rfl))
  clear o7 O5
  have r0 : w7.cell? ⟨rb, 0, none⟩ = some (.int .i64 0) := cell_of_heap (Own.boAt O7.out)
  have r1 : w7.cell? ⟨rb, 1, none⟩ = some (.int .i64 0) := cell_of_heap (Own.boAt O7.out)
  have r2 : w7.cell? ⟨rb, 2, none⟩ = some (.int .u64 0) := cell_of_heap (Own.boAt O7.out)
  have r3 : w7.cell? ⟨rb, 3, none⟩ = some (.int .u64 0) := cell_of_heap (Own.boAt O7.out)
  have fr : ∀ o, w7.frozen? ⟨rb, o, none⟩ = false := fun o => frozen_of_heap (Own.boAt O7.out)
  unfold St.did
  go_wp2
  refine Own.putDid (Q := bodyPost _ _ _ _ _) (Loc.bo.sep (Loc.ax.sep l)) O7.out ?_
  intro W hW z0 z1 z2 z3
  refine bodyPost_ret (by simp [results, Tryz.results21, z0, z1, z2, z3, go_sem]; try rfl) rfl ?_
  exact ⟨rfl, hW⟩
end

theorem takeDone (w : World) (m : Nat) (P T t : Int) (d : Bool) (k : w.heap[m]? = some (takeO P T d t)) :
    Calls Tryz.prog 20 #[.pointer (some ⟨m, 0, none⟩)] w fun e w' => e = .returned (.bool d) ∧ w' = w := by
  have c2 : w.cell? ⟨m, 2, none⟩ = some (.bool d) := cell_of_heap k
  clear k
  go_enter Tryz.func20, Tryz.ntmps20
  go_wp2
  go_ret
  exact ⟨rfl, rfl⟩
theorem leaveDone (w : World) (m : Nat) (P T : Int) (d : Bool) (k : w.heap[m]? = some (leaveO P T d)) :
    Calls Tryz.prog 22 #[.pointer (some ⟨m, 0, none⟩)] w fun e w' => e = .returned (.bool d) ∧ w' = w := by
  have c2 : w.cell? ⟨m, 2, none⟩ = some (.bool d) := cell_of_heap k
  clear k
  go_enter Tryz.func22, Tryz.ntmps22
  go_wp2
  go_ret
  exact ⟨rfl, rfl⟩
end Go.Proofs.YtgenkjmcddjaoaaGreat

namespace Go.Proofs.YtgenkjmcddjaoaaGreat
open Go.RowKit

theorem didFieldL (a b c d : Value) (w : World) : (Instr.field 27 (.agg #[a, b, c, d]) 0).run Tryz.prog w = .ok a w := by kernel_rfl
set_option maxRecDepth 100000 in
theorem aw13 : ∃ s0 s1, St.first (Lay.words ((1 : Nat) : Int) 3).toNat = s0 ∧ 2 < s0.words.length ∧ s0.words.getD 2 0 = 0 ∧ s0.cas 2 0 3 = s1 ∧ s1.did = .agg #[.int .i64 3, .int .i64 2, .int .u64 0, .int .u64 3] ∧ 2 < s1.words.length ∧ s1.words.getD 2 0 = 3 :=
  ⟨_, _, rfl, by decide, by decide, rfl, by rfl, by decide, by decide⟩

set_option maxHeartbeats 4000000 in
theorem awake13 (w : World) : Calls Tryz.prog 26 #[] w fun e w' => e = .returned (.bool true) ∧ Below w.heap.size w w' := by
  obtain ⟨s0, s1, e0, l0, x0, e1, d1, l1, x1⟩ := aw13
  have A1 := fun (R : Res) (w0 u : World) (l : Loc R) (ho : Own R w0 u) => @anew R w0 u l ho 1 3 (by decide) [] (by simp) none 0 (fun _ => ⟨rfl, rfl⟩) (fun h => absurd rfl h)
  rw [e0] at A1
  have HA1 := hide A1
  have HTN := hide (fun (u : World) => newTakeYes 1 3 2 (by decide) u)
  have L0 := hide l0
  have X0 := hide (show decide (s0.words.getD 2 0 = 0) = true by rw [x0]; rfl)
  have E1 := hide e1
  have D1 := hide d1
  have L1 := hide l1
  have X1 := hide x1
  have b1 := heap_alloc_at w (.cells #[.int .i64 1, .int .i64 3] 59)
  have HB1 := hide (grown1 w (.cells #[.int .i64 1, .int .i64 3] 59))
  have HBX := hide b1
  clear e0 l0 x0 e1 d1 l1 x1 A1 b1
  go_enter Tryz.func26, Tryz.ntmps26
  go_wp2
  have O1 := hide (Own.boNew (m := w.heap.size) (o := .cells #[.int .i64 1, .int .i64 3] 59 (0, 0)) Loc.nought (Own.start w) HBX.out (Nat.le_refl _) HB1.out)
  clear HBX HB1
  generalize w.alloc (.cells #[.int .i64 1, .int .i64 3] 59) = w1 at *
  generalize w.heap.size = b at *
  obtain ⟨LO, hLO⟩ : ∃ LO : Obj, LO = .cells #[.int .i64 1, .int .i64 3] 59 (0, 0) := ⟨_, rfl⟩
  rw [← hLO] at O1
  have HLO := hide hLO
  clear hLO
  have lb : Loc (Sep (BO b LO) Nought) := Loc.bo.sep Loc.nought
  have O2 := hide (O1.out.below lb ((Alike.drewN w1 1).below _))
  have J2 : Hid (BkAt b LO w1.drew) := hide (Own.boAt O2.out)
  have hne : Nonempty (Mem (BkAt b LO)) := ⟨⟨_, J2.out⟩⟩
  have U0 : ∀ u : Mem (BkAt b LO), u.w'.cell? ⟨b, 0, none⟩ = some (.int .i64 1) := fun u => cell_of_heap (by rw [← HLO.out]; exact u.h)
  have U1 : ∀ u : Mem (BkAt b LO), u.w'.cell? ⟨b, 1, none⟩ = some (.int .i64 3) := fun u => cell_of_heap (by rw [← HLO.out]; exact u.h)
  generalize ([(kOf 0 (1 : Nat), ([] : List Nat).getD 0 0, ())] : RL) = rl at *
  refine region_start (J := BkAt b LO) (by kernel_rfl) ?_
  refine stretch (fuel := 4) (by kernel_rfl) (fun _ _ _ _ _ h => h) J2.out [0, 2] (by kernel_rfl) ?_
  simp only [List.filterMap_cons, List.filterMap_nil, List.getElem?_toArray, List.getElem?_cons_zero, List.getElem?_cons_succ]
  show wpQuiet _ _ _ _ [_, _] _
  repeat (go_big_quiet_step (fail))
  refine wpQuiet_nil ?_
  refine wpAnyJ_writer (i := 1) rfl (by kernel_rfl) (fun K' hK => ?_)
  go_simp
  refine (HA1.out _ _ _ lb O2.out).mono ?_
  rintro e w2 ⟨q, p, r, rfl, o2⟩
  have O3 := hide o2
  refine hK _ _ (o2.has (R := Sep (AX q 1 3 p r s0 1 [] 1 rl) Nought) (by ac_rfl)) ?_
  clear hK K' o2 O1 O2 HA1
  refine wpAnyJ_writer (i := 3) rfl (by kernel_rfl) (fun K' hK => ?_)
  go_simp
  refine (HTN.out _).mono ?_
  rintro e w3 ⟨m, rfl, h1, h2, h3⟩
  have O4 := hide (Own.boNew (Loc.ax.sep lb) O3.out h1 h2 h3)
  have J4 : Hid (BkAt b LO w3) := hide (O4.out.has (R := Sep (BO m (takeO 1 3 false 2)) (Sep (AX q 1 3 p r s0 1 [] 1 rl) Nought)) (by ac_rfl))
  refine hK _ _ J4.out ?_
  clear hK K' O3 HTN h1 h2 h3
  refine stretch (fuel := 0) (by kernel_rfl) (fun _ _ _ _ _ h => h) J4.out [4, 5] (by kernel_rfl) ?_
  simp only [List.filterMap_cons, List.filterMap_nil, List.getElem?_toArray, List.getElem?_cons_zero, List.getElem?_cons_succ]
  show wpQuiet _ _ _ _ [_, _] _
  repeat (go_big_quiet_step (fail))
  refine wpQuiet_nil ?_
  refine wpAnyJ_done (by kernel_rfl) ?_
  clear U0 U1 hne J2 J4
  go_wp2_with fail
  refine (takeStep lb 2 (by omega) O4.out L0.out true X0.out s1 E1.out).mono ?_
  rintro e w4 ⟨rfl, o4⟩
  have O5 := hide o4
  clear o4 O4
  rw [D1.out]
  go_wp2_with fail
  have O6 := hide (O5.out.below (Loc.bo.sep (Loc.ax.sep lb)) (grown1 w4 (.cells #[.int .i64 3, .int .i64 2, .int .u64 0, .int .u64 3] 27)))
  clear O5
  generalize w4.alloc (.cells #[.int .i64 3, .int .i64 2, .int .u64 0, .int .u64 3] 27) = w5 at *
  refine (takeDone _ m 1 3 2 true (Own.boAt O6.out)).mono ?_
  rintro e w6 ⟨rfl, rfl⟩
  go_wp2_with fail
  have HH := heldX (Loc.bo.sep lb) (O6.out.cast BO.swap) L1.out 3 X1.out (by omega) (by omega)
  rw [show (((3 : Nat) : Int) - 1) = 2 from rfl] at HH
  refine HH.mono ?_
  rintro e w7 ⟨rfl, o7⟩
  have HB := hide o7.back
  clear o7 HH O6
  go_wp2
  go_ret
  exact ⟨rfl, HB.out⟩
end Go.Proofs.YtgenkjmcddjaoaaGreat

namespace Go.Proofs.YtgenkjmcddjaoaaGreat
open Go.RowKit

theorem Sep.nought (R : Res) : Sep Nought R = R := by
  funext w G
  apply propext
  constructor
  · rintro ⟨G1, G2, a, b, _, d⟩
    have e : G = G2 := funext fun x => propext ⟨fun h => ((d x).1 h).elim (fun q => absurd q (a x)) id, fun h => (d x).2 (.inr h)⟩
    rw [e]; exact b
  · intro h
    exact ⟨fun _ => False, G, fun _ h => h, h, fun _ h => h.elim, fun x => ⟨.inr, fun q => q.elim (fun q => q.elim) id⟩⟩
theorem Sep.nought' (R : Res) : Sep R Nought = R := (Sep.comm' _ _).trans (Sep.nought R)

/-- The things of all numbers below n. -/
def Many (f : Nat → Res) : Nat → Res
  | 0 => Nought
  | n + 1 => Sep (f n) (Many f n)
/-- One is turned. -/
def upd {α : Type} (f : Nat → α) (t : Nat) (x : α) : Nat → α := fun j => if j = t then x else f j
theorem upd_at {α : Type} (f : Nat → α) (t : Nat) (x : α) : upd f t x t = x := if_pos rfl
theorem upd_ne {α : Type} (f : Nat → α) {t j : Nat} (x : α) (h : j ≠ t) : upd f t x j = f j := if_neg h
theorem upd_upd {α : Type} (f : Nat → α) (t : Nat) (x y : α) : upd (upd f t x) t y = upd f t y := by
  funext j; unfold upd; split <;> rfl
theorem upd_id {α : Type} (f : Nat → α) (t : Nat) : upd f t (f t) = f := by
  funext j; unfold upd; split
  · rename_i h; rw [h]
  · rfl
theorem Loc.many {f : Nat → Res} (h : ∀ j, Loc (f j)) : ∀ n, Loc (Many f n)
  | 0 => Loc.nought
  | n + 1 => (h n).sep (Loc.many h n)
theorem Many.congr {f g : Nat → Res} : ∀ n, (∀ j, j < n → f j = g j) → Many f n = Many g n
  | 0, _ => rfl
  | n + 1, h => by
    show Sep (f n) (Many f n) = Sep (g n) (Many g n)
    rw [h n (by omega), Many.congr n (fun j hj => h j (by omega))]
theorem Many.at (f : Nat → Res) (t : Nat) : ∀ n, t < n → Many f n = Sep (f t) (Many (upd f t Nought) n)
  | n + 1, h => by
    show Sep (f n) (Many f n) = Sep (f t) (Sep (upd f t Nought n) (Many (upd f t Nought) n))
    by_cases e : t = n
    · subst e
      rw [upd_at, Sep.nought]
      exact congrArg (Sep (f t)) (Many.congr t (fun j hj => (upd_ne f Nought (show j ≠ t by omega)).symm))
    · rw [upd_ne f Nought (fun q => e q.symm), Many.at f t n (by omega)]
      ac_rfl
theorem Many.put (f : Nat → Res) (t : Nat) (r : Res) (n : Nat) (h : t < n) : Many (upd f t r) n = Sep r (Many (upd f t Nought) n) := by
  rw [Many.at (upd f t r) t n h, upd_at, upd_upd]
/-- The one of number t comes forth. -/
theorem Many.out (f : Nat → Res) (t : Nat) (n : Nat) (h : t < n) (R : Res) : Sep (Many f n) R = Sep (f t) (Sep (Many (upd f t Nought) n) R) := by
  rw [Many.at f t n h]; ac_rfl
theorem Many.back (f : Nat → Res) (t : Nat) (r : Res) (n : Nat) (h : t < n) (R : Res) : Sep r (Sep (Many (upd f t Nought) n) R) = Sep (Many (upd f t r) n) R := by
  rw [Many.put f t r n h]; ac_rfl
theorem Loc.rest {f : Nat → Res} (h : ∀ j, Loc (f j)) (t n : Nat) : Loc (Many (upd f t Nought) n) :=
  Loc.many (fun j => by unfold upd; split; exact Loc.nought; exact h j) n
theorem Many.none : ∀ n, Many (fun _ => Nought) n = Nought
  | 0 => rfl
  | n + 1 => by show Sep Nought (Many _ n) = Nought; rw [Sep.nought, Many.none n]

/-- The cells g 0 .. g (n - 1). -/
def rowN (n : Nat) (g : Nat → Value) : Array Value := ((List.range n).map g).toArray
theorem rowN_get {n t : Nat} (g : Nat → Value) (h : t < n) : (rowN n g)[t]? = some (g t) := by
  simp [rowN, h]
theorem rowN_set (n t : Nat) (g : Nat → Value) (v : Value) : (rowN n g).setIfInBounds t v = rowN n (upd g t v) := by
  apply Array.ext_getElem?
  intro j
  rw [Array.getElem?_setIfInBounds]
  simp only [rowN, List.size_toArray, List.length_map, List.length_range, List.getElem?_toArray, List.getElem?_map]
  by_cases e : t = j
  · subst e
    by_cases h : t < n <;> simp [h, upd_at]
  · rw [if_neg e]
    by_cases h : j < n
    · simp [h, upd_ne g v (fun q => e q.symm)]
    · rw [List.getElem?_eq_none (by simp; omega)]; rfl
theorem rowN_const (n : Nat) (v : Value) : rowN n (fun _ => v) = Array.replicate n v := by
  apply Array.ext_getElem?
  intro j
  simp only [rowN, List.getElem?_toArray, List.getElem?_map, Array.getElem?_replicate]
  by_cases h : j < n <;> simp [h]
theorem rowN_congr {n : Nat} {g g' : Nat → Value} (h : ∀ j, j < n → g j = g' j) : rowN n g = rowN n g' := by
  unfold rowN
  congr 1
  apply List.map_congr_left
  intro j hj
  exact h j (List.mem_range.1 hj)
end Go.Proofs.YtgenkjmcddjaoaaGreat

namespace Go.Proofs.YtgenkjmcddjaoaaGreat
open Go.RowKit

theorem made_one {z : Value} (h : z.cells = #[z]) (n : Nat) : (madeCells z.cells (n * 1)).toList = (rowN n (fun _ => z)).toList := by
  rw [h, rowN_const]
  simp only [madeCells, Nat.mul_one, Array.toList_map, Array.toList_range, Array.toList_replicate]
  rw [List.eq_replicate_iff]
  refine ⟨by simp, ?_⟩
  intro b hb
  obtain ⟨j, _, rfl⟩ := List.mem_map.1 hb
  simp [Nat.mod_one]
theorem Own.rowMade {R : Res} {w0 w w1 : World} (lR : Loc R) (h : Own R w0 w) {z : Value} (hz : z.cells = #[z]) {e : TypeId} {n : Nat} (hown : w1.ownsRow w.heap.size e 1 (.slice (some ⟨w.heap.size, 0, none⟩) n n) n (madeCells z.cells (n * 1)).toList) (hgrow : w.grownBy w1 none) :
    Own (Sep (BO w.heap.size (.cells (rowN n (fun _ => z)) e (0, 0))) R) w0 w1 := by
  rw [made_one hz] at hown
  have hr := owned_row hown
  rw [Array.toArray_toList] at hr
  exact Own.boNew lR h hr (Nat.le_refl _) ((Below.refl _ w).grown hgrow (Nat.le_refl _) (by simp))
end Go.Proofs.YtgenkjmcddjaoaaGreat
