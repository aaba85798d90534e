/- A statement whose order is drawn: its reads, and one operation that writes and waits for all of them. And: a statement in a loop's round is carried out as anywhere. (Of any program.) -/
import Derived.Test.YtlicdlpebhalaaaDoorPhase
import Derived.OrdersIn
import Derived.TacticsIn
import Derived.RangeFuncCalls
namespace Go.Proofs.YtlicdlpebhalaaaDoor
open Go Go.RowKit

section
variable {P : Program} {ops : Array Oper} {Q : Exit → Act → World → Prop} {md : Region.Mode}

/-- Whatever order is picked from here on, the world being w0 as long as j has not been taken. -/
def wpAnyW (P : Program) (md : Region.Mode) (ops : Array Oper) (Q : Exit → Act → World → Prop) (j : Nat) (w0 : World) : Nat → Array Bool → Act → World → Prop
  | 0, listed, a, w => Region.ready md ops listed = [] ∧ Q .normal a w
  | fuel + 1, listed, a, w => (Region.ready md ops listed = [] → Q .normal a w) ∧
    ∀ i ∈ Region.ready md ops listed, wpOp P ops Q i (fun a' w' => (i ≠ j → w' = w0) ∧ wpAnyW P md ops Q j w0 fuel (listed.setIfInBounds i true) a' w') a w

theorem wpAnyW.any {j : Nat} {w0 : World} : ∀ (fuel : Nat) (listed : Array Bool) (a : Act) (w : World), wpAnyW P md ops Q j w0 fuel listed a w → wpAny P md ops Q fuel listed a w
  | 0, _, _, _, h => h
  | fuel + 1, _, _, _, h => ⟨h.1, fun i hi => wpOp_mono (fun a' w' h' => wpAnyW.any fuel _ a' w' h'.2) (h.2 i hi)⟩

theorem wpAnyW_first {j : Nat} {oj : Oper} {w0 : World} {i : Nat} {oi : Oper} {v : Value} (hi : ops[i]? = some oi) (hj : ops[j]? = some oj) {i' : Nat} {oi' : Oper} (hi' : ops[i']? = some oi') (hwait : ∃ e ∈ oj.after, Region.binds md e = true ∧ e.on = i') (hwait' : i' = i ∨ ∃ e ∈ oi'.after, Region.binds md e = true ∧ e.on = i)
    (hsel : ∀ (j : Nat) (o : Oper) cs b, ops[j]? = some o → o.op ≠ .select cs b) (hQ : ∀ c a w, Q (.panic c) (a.put oi.dst v) w → Q (.panic c) a w) :
    ∀ (fuel : Nat) (listed : Array Bool) (a : Act),
      (∀ j oj, ops[j]? = some oj → j ≠ i → listed.getD j true = false → (∀ e ∈ oj.after, Region.binds md e = true → e.on ≠ i) → oi.apart ops oj = true) →
      i ∈ Region.ready md ops listed → listed.getD i' true = false → Steady P ops (fun x => x = w0) oi v a →
      wpAnyW P md ops Q j w0 fuel (listed.setIfInBounds i true) (a.put oi.dst v) w0 → wpAnyW P md ops Q j w0 (fuel + 1) listed a w0 := by
  have late : ∀ (listed : Array Bool) (k u : Nat), listed.getD u true = false → k ∈ Region.ready md ops listed → ∀ ok, ops[k]? = some ok → ∀ e ∈ ok.after, Region.binds md e = true → e.on ≠ u := fun listed k u h0 hk ok hok e he hb heq => by
    obtain ⟨_, ok', hok', hall⟩ := mem_ready.1 hk
    rw [hok] at hok'; cases hok'
    have h1 := hall e he hb
    rw [heq] at h1
    rcases Nat.lt_or_ge u listed.size with h' | h'
    · simp [h'] at h0 h1; rw [h0] at h1; cases h1
    · simp [Array.getElem?_eq_none h'] at h1
  have notj : ∀ (listed : Array Bool) k, listed.getD i' true = false → k ∈ Region.ready md ops listed → k ≠ j := fun listed k h0 hk e => by
    subst e
    obtain ⟨e, he, hb, ho⟩ := hwait
    exact late listed k i' h0 hk oj hj e he hb ho
  intro fuel
  induction fuel with
  | zero =>
    intro listed a _ hr _ hy H
    refine ⟨fun h => (by rw [h] at hr; cases hr), fun k hk => ?_⟩
    by_cases hki : k = i
    · subst hki; exact hy.wpOp hi rfl ⟨fun _ => rfl, H⟩
    · have := ready_mono hk hki
      rw [H.1] at this
      cases this
  | succ fuel ih =>
    intro listed a hfree hr hun' hy H
    refine ⟨fun h => (by rw [h] at hr; cases hr), fun k hk => ?_⟩
    by_cases hki : k = i
    · subst hki; exact hy.wpOp hi rfl ⟨fun _ => rfl, H⟩
    · have h1 := H.2 k (ready_mono hk hki)
      have hkj := notj listed k hun' hk
      obtain ⟨hkun, ok, hok, hall⟩ := mem_ready.1 hk
      have hap := hfree k ok hok hki hkun (late listed k i (mem_ready.1 hr).1 hk ok hok)
      have h3 := (Oper.apart_spec hap).2.2
      have h2 := wpOp_ahead (Y := Steady P ops (fun x => x = w0) oi v) hok hap (fun cs b => hsel k ok cs b hok) hQ
        (fun b u hb => hb.of_same (execOp_put oi (fun cs b => hsel i oi cs b hi) b ok.dst u h3) (wanted_put oi b ok.dst u h3)) (fun b d hb => hb.of_same rfl rfl) hy h1
      have hfree' : ∀ m om, ops[m]? = some om → m ≠ i → (listed.setIfInBounds k true).getD m true = false →
          (∀ e ∈ om.after, Region.binds md e = true → e.on ≠ i) → oi.apart ops om = true := fun m om hm hmi hun hno => by
        refine hfree m om hm hmi ?_ hno
        by_cases hkm : k = m
        · subst hkm; exact hkun
        · rw [getD_set_ne true hkm] at hun; exact hun
      refine wpOp_mono (fun a' w' h4 => ⟨h4.2.1, ?_⟩) h2
      obtain rfl : w' = w0 := h4.2.1 hkj
      have hki' : k ≠ i' := fun e => by
        subst e
        rcases hwait' with e | ⟨e, he, hb, ho⟩
        · exact hki e
        · have hoo : ok = oi' := Option.some.inj (hok.symm.trans hi')
          rw [← hoo] at he
          exact late listed k i (mem_ready.1 hr).1 hk ok hok e he hb ho
      refine ih (listed.setIfInBounds k true) a' hfree' (ready_mono hr (Ne.symm hki)) (by rw [getD_set_ne true hki']; exact hun') h4.1 ?_
      rw [Array.setIfInBounds_comm _ _ hki]
      exact h4.2.2

/-- Does k wait for i, at once? -/
def direct (md : Region.Mode) (ops : Array Oper) (k i : Nat) : Bool := match ops[k]? with
  | some o => o.after.any fun e => Region.binds md e && e.on == i
  | none => false

theorem direct_spec {k i : Nat} (h : direct md ops k i = true) : ∃ o, ops[k]? = some o ∧ ∃ e ∈ o.after, Region.binds md e = true ∧ e.on = i := by
  unfold direct at h
  cases hk : ops[k]? with
  | none => rw [hk] at h; cases h
  | some o =>
    rw [hk] at h
    obtain ⟨m, hm, h2⟩ := Array.any_eq_true.1 h
    simp only [Bool.and_eq_true, beq_iff_eq] at h2
    exact ⟨o, rfl, o.after[m], Array.getElem_mem hm, h2.1, h2.2⟩

/-- Does j wait for all of them, each at once or behind one other that has not been taken? -/
def waits (md : Region.Mode) (ops : Array Oper) (j : Nat) : List Nat → Array Bool → Bool
  | [], _ => true
  | i :: is, listed => (direct md ops j i || (List.range ops.size).any fun i' => direct md ops j i' && !(listed.getD i' true) && direct md ops i' i) && waits md ops j is (listed.setIfInBounds i true)

theorem wpAnyW_stretch {j : Nat} {w0 : World} (hs : Region.noSelect ops = true) (hQ : ∀ c (a : Act) d v w, Q (.panic c) (a.put (some d) v) w → Q (.panic c) a w) {fuel : Nat} :
    ∀ (is : List Nat) (listed : Array Bool) (a : Act), waits md ops j is listed = true → takeable md ops is listed = true →
      wpQuiet P ops (fun x => x = w0) (fun a' => wpAnyW P md ops Q j w0 fuel (listedBehind is listed) a' w0) (is.filterMap fun i => ops[i]?) a → wpAnyW P md ops Q j w0 (is.length + fuel) listed a w0
  | [], listed, a, _, _, h => by simpa [wpQuiet, listedBehind] using h
  | i :: is, listed, a, hw, ht, h => by
    simp only [takeable, Bool.and_eq_true] at ht
    obtain ⟨⟨⟨hr, hf⟩, hp⟩, ht'⟩ := ht
    simp only [waits, Bool.and_eq_true, Bool.or_eq_true] at hw
    obtain ⟨hw1, hw'⟩ := hw
    cases ho : ops[i]? with
    | none => rw [ho] at hp; cases hp
    | some o =>
      rw [ho] at hp
      rw [List.filterMap_cons, ho] at h
      obtain ⟨v, hv, hK⟩ := steady_of_quiet hp h
      have hr' : i ∈ Region.ready md ops listed := by simpa using hr
      have rest := wpAnyW_stretch hs hQ is _ _ hw' ht' hK
      have hq' : ∀ c a w, Q (.panic c) (a.put o.dst v) w → Q (.panic c) a w := fun c a w h => by cases hd : o.dst with | none => rw [hd] at h; exact h | some d => rw [hd] at h; exact hQ c a d v w h
      have : wpAnyW P md ops Q j w0 (is.length + fuel + 1) listed a w0 := by
        rcases hw1 with hd | hd
        · obtain ⟨oj, hj, he⟩ := direct_spec hd
          exact wpAnyW_first ho hj ho he (.inl rfl) (Region.noSelect_spec hs) hq' (is.length + fuel) listed a (Region.free_spec ho hf) hr' (mem_ready.1 hr').1 hv rest
        · obtain ⟨i', _, h2⟩ := List.any_eq_true.1 hd
          simp only [Bool.and_eq_true, Bool.not_eq_true'] at h2
          obtain ⟨⟨h3, h4⟩, h5⟩ := h2
          obtain ⟨oj, hj, he⟩ := direct_spec h3
          obtain ⟨oi', hi', he'⟩ := direct_spec h5
          exact wpAnyW_first ho hj hi' he (.inr he') (Region.noSelect_spec hs) hq' (is.length + fuel) listed a (Region.free_spec ho hf) hr' h4 hv rest
      rw [List.length_cons, Nat.add_right_comm]
      exact this

theorem quiet_mono {C : World → Prop} {K K' : Act → Prop} (hK : ∀ a, K a → K' a) : ∀ (l : List Oper) (a : Act), wpQuiet P ops C K l a → wpQuiet P ops C K' l a
  | [], a, h => hK a h
  | o :: rest, a, h => by
    unfold wpQuiet at h ⊢
    split
    · rename_i hw
      rw [if_pos hw] at h
      obtain ⟨v, h1, h2⟩ := h
      exact ⟨v, h1, quiet_mono hK rest _ h2⟩
    · rename_i hw
      rw [if_neg hw] at h
      exact quiet_mono hK rest _ h

/-- Reads that are ready, one behind the other. -/
theorem reads {j fuel : Nat} {w : World} (hs : Region.noSelect ops = true) (hQ : ∀ c (a : Act) d v w, Q (.panic c) (a.put (some d) v) w → Q (.panic c) a w) (is : List Nat) {listed : Array Bool} {a : Act} (hw : waits md ops j is listed = true) (ht : takeable md ops is listed = true)
    (h : wpQuiet P ops (fun x => ∃ _u : Unit, x = w) (fun a' => wpAnyW P md ops Q j w fuel (listedBehind is listed) a' w) (is.filterMap fun i => ops[i]?) a) : wpAnyW P md ops Q j w (is.length + fuel) listed a w := by
  have e : (fun x => ∃ _u : Unit, x = w) = (fun x => x = w) := funext fun x => propext ⟨fun ⟨_, h⟩ => h, fun h => ⟨(), h⟩⟩
  rw [e] at h
  exact wpAnyW_stretch hs hQ is listed a hw ht h

/-- A call that leaves the world as it was, where nothing else is ready. -/
theorem one {j k fuel : Nat} {w : World} {o : Oper} {listed : Array Bool} {a : Act} (ho : ops[k]? = some o) (hr : Region.ready md ops listed = [k]) (hkj : k ≠ j)
    (h : ∀ K : Act → World → Prop, (∀ a', wpAnyW P md ops Q j w fuel (listed.setIfInBounds k true) a' w → K a' w) → if Region.wanted o (yielded ops a.tmps) = true then Oper.wp P o a w K Q else K (a.put o.dst undef) w) : wpAnyW P md ops Q j w (fuel + 1) listed a w := by
  refine ⟨fun h0 => (by rw [hr] at h0; cases h0), fun i hi => ?_⟩
  rw [hr, List.mem_singleton] at hi
  subst hi
  unfold wpOp
  simp only [ho]
  have h1 := h (fun a' w' => (i ≠ j → w' = w) ∧ wpAnyW P md ops Q j w fuel (listed.setIfInBounds i true) a' w') (fun _ h2 => ⟨fun _ => rfl, h2⟩)
  by_cases hwn : Region.wanted o (yielded ops a.tmps) = true
  · rw [if_pos hwn] at h1 ⊢
    exact .inl h1
  · rw [if_neg hwn] at h1 ⊢
    exact ⟨fun _ => trivial, h1.2⟩

/-- The writer, and all is done. -/
theorem last {j : Nat} {w : World} {o : Oper} {listed : Array Bool} {a : Act} (ho : ops[j]? = some o) (hr : Region.ready md ops listed = [j]) (he : Region.ready md ops (listed.setIfInBounds j true) = [])
    (h : ∀ K : Act → World → Prop, (∀ a' w', Q .normal a' w' → K a' w') → if Region.wanted o (yielded ops a.tmps) = true then Oper.wp P o a w K Q else K (a.put o.dst undef) w) : wpAnyW P md ops Q j w 1 listed a w := by
  refine ⟨fun h0 => (by rw [hr] at h0; cases h0), fun k hk => ?_⟩
  rw [hr, List.mem_singleton] at hk
  subst hk
  unfold wpOp
  simp only [ho]
  have h1 := h (fun a' w' => (k ≠ k → w' = w) ∧ wpAnyW P md ops Q k w 0 (listed.setIfInBounds k true) a' w') (fun a' w' h2 => ⟨fun hne => absurd rfl hne, he, h2⟩)
  by_cases hwn : Region.wanted o (yielded ops a.tmps) = true
  · rw [if_pos hwn] at h1 ⊢
    exact .inl h1
  · rw [if_neg hwn] at h1 ⊢
    exact ⟨fun _ => trivial, h1.2⟩

/-- No operation is a defer statement. -/
def noDefer (ops : Array Oper) : Bool := ops.all fun o => match o.op with | .defer _ => false | _ => true
theorem uponIn_of {l n : Nat} {o : Oper} {a : Act} {next : Act → World → Prop} {r : Result Next} (h : o.upon P a next Q r) : o.uponIn (Fence.wide.inRound l) n P a next Q r := by
  cases r with
  | ok x w' =>
    cases x with
    | value v => exact h
    | skip => exact h
    | defer d => exact h
    | enter f args => exact ⟨fun e => (by cases e), CallsIn.inRound l (callsIn_wide.2 h)⟩
    | row row args => exact ⟨fun e => (by cases e), fun c cs _ => let ⟨v, w', r, s⟩ := h c cs; ⟨v, w', r, stepsIn_wide.2 s⟩⟩
    | round l f tmps assign body => exact h.elim
    | _ => exact h.elim
  | halt x w' =>
    cases x <;> exact h

theorem operIn_of {l n : Nat} {o : Oper} {a : Act} {w : World} {next : Act → World → Prop} (hd : ∀ c, o.op ≠ .defer c) (h : o.wp P a w next Q) : o.wpIn (Fence.wide.inRound l) n P a w next Q := by
  refine ⟨fun _ _ => trivial, ?_⟩
  rw [show (Fence.wide.inRound l).round = some l from rfl, Oper.semAt_some l _ o hd]
  exact uponIn_of h

theorem anyIn_of {l n : Nat} (hd : ∀ (i : Nat) (o : Oper), ops[i]? = some o → ∀ c, o.op ≠ .defer c) (hQ : ¬ LetsOut Q) : ∀ (fuel : Nat) (listed : Array Bool) (a : Act) (w : World), wpAny P md ops Q fuel listed a w → wpAnyIn (Fence.wide.inRound l) n P md ops Q fuel listed a w
  | 0, _, _, _, h => h
  | fuel + 1, listed, a, w, h => ⟨h.1, fun i hi => by
    have hh := h.2 i hi
    unfold wpOp at hh
    unfold wpOpIn
    cases ho : ops[i]? with
    | none => simp only [ho] at hh ⊢; exact anyIn_of hd hQ fuel _ _ _ hh
    | some o =>
      simp only [ho] at hh ⊢
      by_cases hw : Region.wanted o (yielded ops a.tmps) = true
      · rw [if_pos hw] at hh ⊢
        rcases hh with hh | ⟨_, hh⟩
        · exact operIn_of (hd i o ho) (Oper.wp_mono (fun a2 w2 h2 => anyIn_of hd hQ fuel _ a2 w2 h2) hh)
        · exact absurd hh hQ
      · rw [if_neg hw] at hh ⊢
        exact ⟨fun _ _ => trivial, anyIn_of hd hQ fuel _ _ _ hh⟩⟩

theorem noDefer_spec (h : noDefer ops = true) : ∀ (i : Nat) (o : Oper), ops[i]? = some o → ∀ c, o.op ≠ .defer c := by
  intro i o hi c hc
  have := Array.all_eq_true.1 h i (Array.getElem?_eq_some_iff.1 hi).1
  rw [(Array.getElem?_eq_some_iff.1 hi).2, hc] at this
  cases this

/-- In a loop's round: a statement whose operation j alone writes. -/
theorem round_start {l n id : Nat} {a : Act} {w : World} (j : Nat) (hm : P.follows .mixedOrders = true) (hd : noDefer ops = true) (hQ : ¬ LetsOut Q)
    (h : wpAnyW P .any ops Q j w.drew ops.size (Array.replicate ops.size false) a w.drew) : (Code.region id ops true).wpIn (Fence.wide.inRound l) n P Q a w :=
  wpIn_region_any hm (anyIn_of (noDefer_spec hd) hQ _ _ _ _ (h.any _ _ _ _))

/-- The same outside of one. -/
theorem plain_start {id : Nat} {a : Act} {w : World} (j : Nat) (hm : P.follows .mixedOrders = true)
    (h : wpAnyW P .any ops Q j w.drew ops.size (Array.replicate ops.size false) a w.drew) : (Code.region id ops true).wp P Q a w :=
  wp_region_any hm (h.any _ _ _ _)

end
end Go.Proofs.YtlicdlpebhalaaaDoor
