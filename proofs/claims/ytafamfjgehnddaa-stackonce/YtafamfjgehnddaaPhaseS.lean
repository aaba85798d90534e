/- Phase's stretch, with cuts of slices among what is read; 'append' as an operation that writes, of whatever is appended. (Of any program.) -/
import Derived.Test.YtafamfjgehnddaaPhaseTwo
import Derived.Test.YtafamfjgehnddaaTreWalk2
import Derived.Laws.OwnMore
import Derived.Maps.AppendAt
namespace Go.Proofs.Ytafamfjgehnddaa
open Go Go.RowKit
section
variable {P : Program} {ops : Array Oper} {Q : Exit → Act → World → Prop} {md : Region.Mode}

def plainOp2 : Op → Bool
  | .slice .. => true
  | o => plainOp o
theorem plain_value2 {o : Oper} (hp : plainOp2 o.op = true) {ρ : Operand → Value} {w w' : World} {n : Next} (h : (execOp ρ o).run P w = .ok n w') : ∃ u, n = .value u := by
  cases hop : o.op
  case slice =>
    unfold execOp at h
    rw [hop] at h
    exact bind_value h
  all_goals exact plain_value (by rw [hop] at hp ⊢; exact hp) h
def takeable2 (md : Region.Mode) (ops : Array Oper) : List Nat → Array Bool → Bool
  | [], _ => true
  | i :: is, listed => (Region.ready md ops listed).contains i && Region.free md ops listed i && (match ops[i]? with | some o => plainOp2 o.op | none => false) && takeable2 md ops is (listed.setIfInBounds i true)
theorem steady_of_quiet2 {J : World → Prop} {o : Oper} {a : Act} {K : Act → Prop} (hp : plainOp2 o.op = true) (h : if Region.wanted o (yielded ops a.tmps) then o.quiet P a J K else K (a.put o.dst undef)) : ∃ v, Steady P ops J o v a ∧ K (a.put o.dst v) := by
  by_cases hw : Region.wanted o (yielded ops a.tmps) = true
  · rw [if_pos hw] at h
    obtain ⟨v, h1, h2⟩ := h
    refine ⟨v, .inl ⟨hw, fun w hJ => ?_⟩, h2⟩
    have h3 := h1 w hJ
    unfold Oper.quietAt at h3
    cases hr : (execOp a.eval o).run P w with
    | ok n w' =>
      obtain ⟨u, rfl⟩ := plain_value2 hp hr
      rw [hr] at h3
      obtain ⟨rfl, rfl⟩ := h3
      rfl
    | halt x w' => rw [hr] at h3; exact absurd h3 (by simp [Oper.quietUpon])
  · rw [if_neg hw] at h
    exact ⟨undef, .inr ⟨by simpa using hw, rfl⟩, h⟩
theorem wpAnyJ_stretch2 {I : World → Prop} (hs : Region.noSelect ops = true) (hQ : ∀ c (a : Act) d v w, Q (.panic c) (a.put (some d) v) w → Q (.panic c) a w) {fuel : Nat} {w : World} (hI : I w) :
    ∀ (is : List Nat) (listed : Array Bool) (a : Act), takeable2 md ops is listed = true →
      wpQuiet P ops I (fun a' => wpAnyJ P md ops Q I fuel (listedBehind is listed) a' w) (is.filterMap fun i => ops[i]?) a → wpAnyJ P md ops Q I (is.length + fuel) listed a w
  | [], listed, a, _, h => by simpa [wpQuiet, listedBehind] using h
  | i :: is, listed, a, ht, h => by
    simp only [takeable2, Bool.and_eq_true] at ht
    obtain ⟨⟨⟨hr, hf⟩, hp⟩, ht'⟩ := ht
    cases ho : ops[i]? with
    | none => rw [ho] at hp; cases hp
    | some o =>
      rw [ho] at hp
      rw [List.filterMap_cons, ho] at h
      obtain ⟨v, hv, hK⟩ := steady_of_quiet2 hp h
      have := wpAnyJ_first ho (Region.noSelect_spec hs) (fun c a w h => by cases hd : o.dst with | none => rw [hd] at h; exact h | some d => rw [hd] at h; exact hQ c a d v w h) (is.length + fuel) listed a w (Region.free_spec ho hf) (by simpa using hr) hI hv (wpAnyJ_stretch2 hs hQ hI is _ _ ht' hK)
      rw [List.length_cons, Nat.add_right_comm]
      exact this
theorem stretch2 {I : World → Prop} (hs : Region.noSelect ops = true) (hQ : ∀ c (a : Act) d v w, Q (.panic c) (a.put (some d) v) w → Q (.panic c) a w) {fuel : Nat} {w : World} (hI : I w)
    (is : List Nat) {listed : Array Bool} {a : Act} (ht : takeable2 md ops is listed = true)
    (h : wpQuiet P ops (fun x => ∃ u : Mem I, x = u.w') (fun a' => wpAnyJ P md ops Q I fuel (listedBehind is listed) a' w) (is.filterMap fun i => ops[i]?) a) : wpAnyJ P md ops Q I (is.length + fuel) listed a w := by
  have e : (fun x => ∃ u : Mem I, x = u.w') = I := funext fun x => propext ⟨fun ⟨u, hu⟩ => hu ▸ u.h, fun hx => ⟨⟨x, hx⟩, rfl⟩⟩
  rw [e] at h
  exact wpAnyJ_stretch2 hs hQ hI is listed a ht h
end

/-- What is appended: nothing at all, or m elements that lie somewhere. -/
def Src (w : World) (x : Value) (m : Nat) (news : List Value) : Prop := (x = .slice none 0 0 ∧ m = 0 ∧ news = []) ∨ ∃ ad c, x = .slice (some ad) m c ∧ ∀ j u, news[j]? = some u → w.cell? (ad.add j) = some u
theorem oper_append {P : Program} (w : World) {o : Oper} {a : Act} {Q : Exit → Act → World → Prop} {K : Act → World → Prop}
    (s x : Operand) (t : TypeId) (hop : o.op = Op.call { callee := Callee.builtin Builtin.append, args := #[s, x], argTypes := #[t, t] })
    (base : Nat) (e : TypeId) (i : TypeInfo) (z : Value) (size bytes : Nat) (h1 : P.underlying t = some (.slice e)) (h2 : P.info? e = some i) (h3 : i.zero = some z) (h4 : i.size = size) (h5 : i.bytes = bytes) (h6 : z.cells.size = size) (h7 : 0 < size)
    (v : Value) (k : Nat) (xs : List Value) (hs : a.eval s = v) (hown : w.ownsRow base e size v k xs) (m : Nat) (news : List Value) (hx : Src w (a.eval x) m news) (hn : news.length = m * size)
    (h1c : ∀ u ∈ news, u.oneCell' = true) (b1 : k + m ≤ maxLen) (b2 : (k + m) * bytes ≤ 140737488355328) (b3 : base ≤ w.heap.size)
    (hK : ∀ v' w', w'.ownsRow base e size v' (k + m) (xs ++ news) → w.grownBy w' v.ownBlock → (v'.ownBlock = v.ownBlock ∨ v'.ownBlock = some w.heap.size) → K (a.put o.dst v') w') :
    Oper.wp P o a w K Q := by
  rcases hx with ⟨hx, rfl, rfl⟩ | ⟨ad, c, hx, hc⟩
  · have hrun := run_append_owned_none (P := P) w base t o.type e i size h1 h2 v k xs hown
    unfold Oper.wp
    simp [execOp, hop, resolve, invoke, builtin, hs, hx, hrun, Result.andThen]
    exact hK _ _ (by simpa using hown) ⟨rfl, rfl, rfl, Nat.le_refl _, fun _ _ _ => rfl⟩ (.inl rfl)
  · obtain ⟨v', w', hrun, r1, r2, _, r4⟩ := run_append_own_at (P := P) w base t o.type e i z size bytes h1 h2 h3 h4 h5 h6 h7 v k xs hown ad m c news hn hc h1c b1 b2 b3
    unfold Oper.wp
    simp [execOp, hop, resolve, invoke, builtin, hs, hx, hrun, Result.andThen]
    exact hK _ _ r1 r2 r4
theorem cells_at {w : World} {b : Nat} {cs : List Value} {t : TypeId} (h : w.heap[b]? = some (.cells cs.toArray t (0, 0))) : ∀ j u, cs[j]? = some u → w.cell? ((⟨b, 0, none⟩ : Addr).add j) = some u := fun j u hj => by
  have ea : (⟨b, 0, none⟩ : Addr).add j = ⟨b, j, none⟩ := by unfold Addr.add; split <;> simp_all
  rw [ea, cell_of_heap h]
  simpa using hj
theorem cells_new (w : World) (cs : List Value) (t : TypeId) : ∀ j u, cs[j]? = some u → (w.alloc (.cells cs.toArray t)).cell? ((⟨w.heap.size, 0, none⟩ : Addr).add j) = some u := cells_at (heap_alloc_at w _)
end Go.Proofs.Ytafamfjgehnddaa
