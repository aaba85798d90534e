/- As Last, where more follows behind the one operation (j) that turns the world, and what the others read feeds it over any number of steps. (Of any program.) -/
import Derived.Test.YtgdliebllmgibaaDoorPhase
import Derived.Test.YtgdliebllmgibaaDoorPhaseS
namespace Go.Proofs.YtgdliebllmgibaaDoor
open Go Go.RowKit
section
variable {P : Program} {ops : Array Oper} {Q : Exit → Act → World → Prop} {md : Region.Mode}

/-- Whatever order is picked from here on, the world being w0 as long as j has not been taken. -/
def wpAnyV (P : Program) (md : Region.Mode) (ops : Array Oper) (Q : Exit → Act → World → Prop) (j : Nat) (w0 : World) : Nat → Array Bool → Act → World → Prop
  | 0, listed, a, w => Region.ready md ops listed = [] ∧ Q .normal a w
  | fuel + 1, listed, a, w => (Region.ready md ops listed = [] → Q .normal a w) ∧
    ∀ i ∈ Region.ready md ops listed, wpOp P ops Q i (fun a' w' => (i = j → wpAny P md ops Q fuel (listed.setIfInBounds i true) a' w') ∧ (i ≠ j → w' = w0 ∧ wpAnyV P md ops Q j w0 fuel (listed.setIfInBounds i true) a' w')) a w
theorem wpAnyV.any {j : Nat} {w0 : World} : ∀ (fuel : Nat) (listed : Array Bool) (a : Act) (w : World), wpAnyV P md ops Q j w0 fuel listed a w → wpAny P md ops Q fuel listed a w
  | 0, _, _, _, h => h
  | fuel + 1, _, _, _, h => ⟨h.1, fun i hi => wpOp_mono (fun a' w' h' => by
      by_cases e : i = j
      · exact h'.1 e
      · exact wpAnyV.any fuel _ a' w' (h'.2 e).2) (h.2 i hi)⟩

/-- Does k wait for i, over n steps at most? -/
def reach (md : Region.Mode) (ops : Array Oper) (i : Nat) : Nat → Nat → Bool
  | 0, k => k == i
  | n + 1, k => k == i || (match ops[k]? with | some o => o.after.any (fun e => Region.binds md e && reach md ops i n e.on) | none => false)
/-- What is listed has all that it waits for listed. -/
def Shut (md : Region.Mode) (ops : Array Oper) (listed : Array Bool) : Prop := ∀ k o, ops[k]? = some o → listed.getD k false = true → ∀ e ∈ o.after, Region.binds md e = true → listed.getD e.on false = true
theorem un_of {listed : Array Bool} {i : Nat} (h : listed.getD i true = false) : listed.getD i false = false := by
  rcases Nat.lt_or_ge i listed.size with h' | h'
  · simp [h'] at h ⊢; exact h
  · simp [Array.getElem?_eq_none h'] at h
theorem reach_un {listed : Array Bool} {i : Nat} (hs : Shut md ops listed) (hi : listed.getD i true = false) : ∀ (n k : Nat), reach md ops i n k = true → listed.getD k false = false
  | 0, k, h => by
    unfold reach at h
    rw [beq_iff_eq] at h
    subst h
    exact un_of hi
  | n + 1, k, h => by
    unfold reach at h
    rw [Bool.or_eq_true, beq_iff_eq] at h
    rcases h with rfl | h
    · exact un_of hi
    · cases ho : ops[k]? with
      | none => rw [ho] at h; cases h
      | some o =>
        rw [ho] at h
        obtain ⟨e, he, hb⟩ := Array.any_eq_true'.1 h
        rw [Bool.and_eq_true] at hb
        have h1 := reach_un hs hi n e.on hb.2
        cases hk : listed.getD k false with
        | false => rfl
        | true => have := hs k o ho hk e he hb.1; rw [h1] at this; cases this
theorem reach_not {listed : Array Bool} {i j n : Nat} (hs : Shut md ops listed) (hi : listed.getD i true = false) (hr : reach md ops i n j = true) (hij : i ≠ j) : ¬ j ∈ Region.ready md ops listed := fun hj => by
  obtain ⟨_, o, ho, hall⟩ := mem_ready.1 hj
  cases n with
  | zero => unfold reach at hr; rw [beq_iff_eq] at hr; exact hij hr.symm
  | succ n =>
    unfold reach at hr
    rw [Bool.or_eq_true, beq_iff_eq, ho] at hr
    rcases hr with h | h
    · exact hij h.symm
    · obtain ⟨e, he, hb⟩ := Array.any_eq_true'.1 h
      rw [Bool.and_eq_true] at hb
      have h1 := reach_un hs hi n e.on hb.2
      have h2 := hall e he hb.1
      rw [h1] at h2; cases h2
theorem Shut.add {listed : Array Bool} {k : Nat} (hs : Shut md ops listed) (hk : k ∈ Region.ready md ops listed) : Shut md ops (listed.setIfInBounds k true) := fun m o ho hm e he hb => by
  obtain ⟨_, ok, hok, hall⟩ := mem_ready.1 hk
  have up : ∀ x, listed.getD x false = true → (listed.setIfInBounds k true).getD x false = true := fun x hx => by
    rcases Nat.lt_or_ge x listed.size with h' | h'
    · by_cases e : k = x
      · subst e; simp [h']
      · rw [getD_set_ne false e]; exact hx
    · simp [Array.getElem?_eq_none h'] at hx
  by_cases hmk : k = m
  · subst hmk
    rw [hok] at ho; cases ho
    exact up _ (hall e he hb)
  · refine up _ (hs m o ho ?_ e he hb)
    rw [getD_set_ne false hmk] at hm; exact hm

theorem wpAnyV_first {j : Nat} {w0 : World} {i n : Nat} {oi : Oper} {v : Value} (hi : ops[i]? = some oi) (hij : i ≠ j) (hre : reach md ops i n j = true)
    (hsel : ∀ (j : Nat) (o : Oper) cs b, ops[j]? = some o → o.op ≠ .select cs b) (hQ : ∀ c a w, Q (.panic c) (a.put oi.dst v) w → Q (.panic c) a w) :
    ∀ (fuel : Nat) (listed : Array Bool) (a : Act),
      (∀ j oj, ops[j]? = some oj → j ≠ i → listed.getD j true = false → (∀ e ∈ oj.after, Region.binds md e = true → e.on ≠ i) → oi.apart ops oj = true) →
      i ∈ Region.ready md ops listed → Shut md ops listed → Steady P ops (fun x => x = w0) oi v a →
      wpAnyV P md ops Q j w0 fuel (listed.setIfInBounds i true) (a.put oi.dst v) w0 → wpAnyV P md ops Q j w0 (fuel + 1) listed a w0 := by
  have late : ∀ (listed : Array Bool) (k u : Nat), listed.getD u true = false → k ∈ Region.ready md ops listed → ∀ ok, ops[k]? = some ok → ∀ e ∈ ok.after, Region.binds md e = true → e.on ≠ u := fun listed k u h0 hk ok hok e he hb heq => by
    obtain ⟨_, ok', hok', hall⟩ := mem_ready.1 hk
    rw [hok] at hok'; cases hok'
    have h1 := hall e he hb
    rw [heq] at h1
    rcases Nat.lt_or_ge u listed.size with h' | h'
    · simp [h'] at h0 h1; rw [h0] at h1; cases h1
    · simp [Array.getElem?_eq_none h'] at h1
  intro fuel
  induction fuel with
  | zero =>
    intro listed a _ hr _ hy H
    refine ⟨fun h => (by rw [h] at hr; cases hr), fun k hk => ?_⟩
    by_cases hki : k = i
    · subst hki; exact hy.wpOp hi rfl ⟨fun e => absurd e hij, fun _ => ⟨rfl, H⟩⟩
    · have := ready_mono hk hki
      rw [H.1] at this
      cases this
  | succ fuel ih =>
    intro listed a hfree hr hsh hy H
    refine ⟨fun h => (by rw [h] at hr; cases hr), fun k hk => ?_⟩
    by_cases hki : k = i
    · subst hki; exact hy.wpOp hi rfl ⟨fun e => absurd e hij, fun _ => ⟨rfl, H⟩⟩
    · have h1 := H.2 k (ready_mono hk hki)
      have hkj : k ≠ j := fun e => reach_not hsh (mem_ready.1 hr).1 hre hij (e ▸ hk)
      obtain ⟨hkun, ok, hok, hall⟩ := mem_ready.1 hk
      have hap := hfree k ok hok hki hkun (late listed k i (mem_ready.1 hr).1 hk ok hok)
      have h3 := (Oper.apart_spec hap).2.2
      have h2 := wpOp_ahead (Y := Steady P ops (fun x => x = w0) oi v) hok hap (fun cs b => hsel k ok cs b hok) hQ
        (fun b u hb => hb.of_same (execOp_put oi (fun cs b => hsel i oi cs b hi) b ok.dst u h3) (wanted_put oi b ok.dst u h3)) (fun b d hb => hb.of_same rfl rfl) hy h1
      have hfree' : ∀ m om, ops[m]? = some om → m ≠ i → (listed.setIfInBounds k true).getD m true = false →
          (∀ e ∈ om.after, Region.binds md e = true → e.on ≠ i) → oi.apart ops om = true := fun m om hm hmi hun hno => by
        refine hfree m om hm hmi ?_ hno
        by_cases hkm : k = m
        · subst hkm; exact hkun
        · rw [getD_set_ne true hkm] at hun; exact hun
      refine wpOp_mono (fun a' w' h4 => ⟨fun e => absurd e hkj, fun _ => ⟨(h4.2.2 hkj).1, ?_⟩⟩) h2
      obtain rfl : w' = w0 := (h4.2.2 hkj).1
      refine ih (listed.setIfInBounds k true) a' hfree' (ready_mono hr (Ne.symm hki)) (hsh.add hk) h4.1 ?_
      rw [Array.setIfInBounds_comm _ _ hki]
      exact (h4.2.2 hkj).2

/-- Do they all feed j? -/
def feeds (md : Region.Mode) (ops : Array Oper) (j : Nat) (is : List Nat) : Bool := is.all fun i => i != j && reach md ops i ops.size j
/-- Is what is listed shut, as a test? -/
def shutB (md : Region.Mode) (ops : Array Oper) (listed : Array Bool) : Bool := (List.range ops.size).all fun k => !(listed.getD k false) || (match ops[k]? with | some o => o.after.all (fun e => !(Region.binds md e) || listed.getD e.on false) | none => true)
theorem shut_of {listed : Array Bool} (h : shutB md ops listed = true) : Shut md ops listed := fun k o ho hk e he hb => by
  have hlt : k < ops.size := (Array.getElem?_eq_some_iff.1 ho).1
  have h1 := List.all_eq_true.1 h k (List.mem_range.2 hlt)
  rw [hk, ho] at h1
  simp only [Bool.not_true, Bool.false_or] at h1
  have h2 := Array.all_eq_true'.1 h1 e he
  rw [hb] at h2
  simpa using h2

theorem wpAnyV_stretch {j : Nat} {w0 : World} (hs : Region.noSelect ops = true) (hQ : ∀ c (a : Act) d v w, Q (.panic c) (a.put (some d) v) w → Q (.panic c) a w) {fuel : Nat} :
    ∀ (is : List Nat) (listed : Array Bool) (a : Act), feeds md ops j is = true → Shut md ops listed → takeable md ops is listed = true →
      wpQuiet P ops (fun x => x = w0) (fun a' => wpAnyV P md ops Q j w0 fuel (listedBehind is listed) a' w0) (is.filterMap fun i => ops[i]?) a → wpAnyV P md ops Q j w0 (is.length + fuel) listed a w0
  | [], listed, a, _, _, _, h => by simpa [wpQuiet, listedBehind] using h
  | i :: is, listed, a, hw, hsh, ht, h => by
    simp only [takeable, Bool.and_eq_true] at ht
    obtain ⟨⟨⟨hr, hf⟩, hp⟩, ht'⟩ := ht
    simp only [feeds, List.all_cons, Bool.and_eq_true, bne_iff_ne, ne_eq] at hw
    obtain ⟨⟨hw1, hw2⟩, hw'⟩ := hw
    cases ho : ops[i]? with
    | none => rw [ho] at hp; cases hp
    | some o =>
      rw [ho] at hp
      rw [List.filterMap_cons, ho] at h
      obtain ⟨v, hv, hK⟩ := steady_of_quiet hp h
      have hr' : i ∈ Region.ready md ops listed := by simpa using hr
      have rest := wpAnyV_stretch hs hQ is _ _ hw' (hsh.add hr') ht' hK
      have hq' : ∀ c a w, Q (.panic c) (a.put o.dst v) w → Q (.panic c) a w := fun c a w h => by cases hd : o.dst with | none => rw [hd] at h; exact h | some d => rw [hd] at h; exact hQ c a d v w h
      rw [List.length_cons, Nat.add_right_comm]
      exact wpAnyV_first ho hw1 hw2 (Region.noSelect_spec hs) hq' (is.length + fuel) listed a (Region.free_spec ho hf) hr' hsh hv rest
/-- Reads that are ready, one behind the other. -/
theorem readsM {j fuel : Nat} {w : World} (hs : Region.noSelect ops = true) (hQ : ∀ c (a : Act) d v w, Q (.panic c) (a.put (some d) v) w → Q (.panic c) a w) (is : List Nat) {listed : Array Bool} {a : Act} (hw : feeds md ops j is = true) (hsh : shutB md ops listed = true) (ht : takeable md ops is listed = true)
    (h : wpQuiet P ops (fun x => ∃ _u : Unit, x = w) (fun a' => wpAnyV P md ops Q j w fuel (listedBehind is listed) a' w) (is.filterMap fun i => ops[i]?) a) : wpAnyV P md ops Q j w (is.length + fuel) listed a w := by
  have e : (fun x => ∃ _u : Unit, x = w) = (fun x => x = w) := funext fun x => propext ⟨fun ⟨_, h⟩ => h, fun h => ⟨(), h⟩⟩
  rw [e] at h
  exact wpAnyV_stretch hs hQ is listed a hw (shut_of hsh) ht h
/-- The writer; what follows. -/
theorem turnM {j fuel : Nat} {w : World} {o : Oper} {listed : Array Bool} {a : Act} (ho : ops[j]? = some o) (hr : Region.ready md ops listed = [j]) (hw : Region.wanted o (yielded ops a.tmps) = true)
    (h : ∀ K : Act → World → Prop, (∀ a' w', wpAny P md ops Q fuel (listed.setIfInBounds j true) a' w' → K a' w') → Oper.wp P o a w K Q) : wpAnyV P md ops Q j w (fuel + 1) listed a w := by
  refine ⟨fun h0 => (by rw [hr] at h0; cases h0), fun k hk => ?_⟩
  rw [hr, List.mem_singleton] at hk
  subst hk
  unfold wpOp
  simp only [ho]
  rw [if_pos hw]
  exact .inl (h _ (fun a' w' h2 => ⟨fun _ => h2, fun hne => absurd rfl hne⟩))
/-- What is left, one operation. -/
theorem lastM {k fuel : Nat} {w : World} {o : Oper} {listed : Array Bool} {a : Act} (ho : ops[k]? = some o) (hr : Region.ready md ops listed = [k]) (he : Region.ready md ops (listed.setIfInBounds k true) = []) (hw : Region.wanted o (yielded ops a.tmps) = true)
    (h : ∀ K : Act → World → Prop, (∀ a' w', Q .normal a' w' → K a' w') → Oper.wp P o a w K Q) : wpAny P md ops Q (fuel + 1) listed a w := by
  refine ⟨fun h0 => (by rw [hr] at h0; cases h0), fun i hi => ?_⟩
  rw [hr, List.mem_singleton] at hi
  subst hi
  unfold wpOp
  simp only [ho]
  rw [if_pos hw]
  refine .inl (h _ (fun a' w' h2 => ?_))
  cases fuel with
  | zero => exact ⟨he, h2⟩
  | succ n => exact ⟨fun _ => h2, by rw [he]; simp⟩
theorem startM (j : Nat) {id : Nat} {a : Act} {w : World} (hm : P.follows .mixedOrders = true) (h : wpAnyV P .any ops Q j w.drew ops.size (Array.replicate ops.size false) a w.drew) : (Code.region id ops true).wp P Q a w :=
  wp_region_any hm (wpAnyV.any _ _ _ _ h)
end
end Go.Proofs.YtgdliebllmgibaaDoor
