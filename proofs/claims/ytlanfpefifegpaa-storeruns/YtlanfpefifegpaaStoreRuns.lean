/- Whatever is loaded, put, swapped, added, at any places: each answer, the last access, how many there were, and all words, are the document's: the law StoreRuns answers true at every input, and its arguments read behind the call as they read before. No condition. -/
import Derived.Test.YtlanfpefifegpaaStoreOpen
namespace Go.Proofs.Ytlanfpefifegpaa.storeRuns
open Go.ChangeShapes Go.WideShapes Go.ChangeAt Go.RowKit

set_option maxRecDepth 100000 in
set_option maxHeartbeats 1000000 in
theorem walk (n : Nat) (hn : n < 256) (ao : Option Addr) (len cap : Nat) (_hlen : len ≤ cap) (hcap0 : cap ≤ maxLen) (w : World) (hops : OpsIn w ao len) :
    Calls Try.prog 3 #[.int .u8 (n : Int), .slice ao len cap] w fun e w' => e = .returned (.bool true) ∧ Below w.heap.size w w' := by
  have hcap : cap ≤ 9223372036854775807 := hcap0
  have HO := hide hops
  clear hops
  go_enter Try.func3, Try.ntmps3
  go_wp2_with fail
  refine (new_inI _ _ (by omega) (by omega)).mono ?_
  rintro e w1 ⟨p, b, rfl, hS, hp, hb, hb1⟩
  have L1 := lt_of_heap hS.head
  have L2 := lt_of_heap hS.row
  have HS := hide hS
  have H1 := hide hb1
  clear hS hb1
  go_wp2_with fail
  refine (rnew_inI _ _ (by omega) (by omega)).mono ?_
  rintro e w2 ⟨q, c, rfl, hR, hq, hc, hb2⟩
  have HB : Hid (Both w2 p b q c (St.zero (1 + (n : Int) % 40).toNat)) := ⟨HS.out.below hb2, hR, by omega, by omega, by omega, by omega⟩
  have H2 : Hid (Below w.heap.size w w2) := H1.out.trans (hb2.mono H1.out.size)
  have hws : w.heap.size ≤ w1.heap.size := H1.out.size
  have hq0 : w.heap.size ≤ q := by omega
  have hc0 : w.heap.size ≤ c := by omega
  obtain ⟨m, hm⟩ : ∃ m : Nat, 1 + (n : Int) % 40 = (m : Int) := ⟨(1 + (n : Int) % 40).toNat, by omega⟩
  have HM : Hid ((St.zero (1 + (n : Int) % 40).toNat).words.length = m) := by
    show (List.replicate _ 0).length = m
    rw [List.length_replicate]; omega
  have Hm := hide hm
  have hm40 : m ≤ 40 := by omega
  clear hm HS H1 hR hb2 hq hc L1 L2
  go_wp2_with fail
  go_loopw [8] (fun i wr => ∃ (k : Nat) (s : St), k ≤ len ∧ i = .int .i64 k ∧ Both wr p b q c s ∧ s.words.length = m ∧ Below w.heap.size w wr) (fun i _ => len - (intOf i).toNat)
  case atStart => exact ⟨0, _, by omega, rfl, HB.out, HM.out, H2.out⟩
  case round =>
    obtain ⟨k, s, hk, rfl, hB, hsl, hbel⟩ := hrel
    clear HB HM H2
    by_cases hlt : k < len ∧ k < 300
    · obtain ⟨hlt1, hlt2⟩ := hlt
      obtain ⟨ab, ab0, kind, t, v, old, rfl, hop⟩ := HO.out k hlt1
      have HOP := hide hop
      have HBo := hide hB
      have HBe := hide hbel
      have Hsl := hide hsl
      clear hop hB hbel hsl
      go_wp2_with fail
      have HW : Hid (OpAt wr.drew ab ab0 k kind t v old) := by
        have := HOP.out.kept HBe.out HOP.out.lt
        exact ⟨this.c0, this.c1, this.c2, this.c3, this.lt, this.hk, this.hv, this.ho⟩
      have e0 : ∀ u : Mem (fun x => OpAt x ab ab0 k kind t v old), u.w'.cell? ⟨ab, ab0 + k * 4, none⟩ = some (.int .u8 (kind : Int)) := fun u => u.h.c0
      have e1 : ∀ u : Mem (fun x => OpAt x ab ab0 k kind t v old), u.w'.cell? ⟨ab, ab0 + k * 4 + 1, none⟩ = some (.int .i64 t) := fun u => u.h.c1
      have e2 : ∀ u : Mem (fun x => OpAt x ab ab0 k kind t v old), u.w'.cell? ⟨ab, ab0 + k * 4 + 2, none⟩ = some (.int .u64 (v : Int)) := fun u => u.h.c2
      have e3 : ∀ u : Mem (fun x => OpAt x ab ab0 k kind t v old), u.w'.cell? ⟨ab, ab0 + k * 4 + 3, none⟩ = some (.int .u64 (old : Int)) := fun u => u.h.c3
      have hne : Nonempty (Mem (fun x => OpAt x ab ab0 k kind t v old)) := ⟨⟨_, HW.out⟩⟩
      refine region_start (J := (fun x => OpAt x ab ab0 k kind t v old)) (by kernel_rfl) ?_
      refine stretch (fuel := 20) (by kernel_rfl) (fun _ _ _ _ _ h => h) HW.out [0, 1, 2, 3, 4, 5] (by kernel_rfl) ?_
      simp only [List.filterMap_cons, List.filterMap_nil, List.getElem?_toArray, List.getElem?_cons_zero, List.getElem?_cons_succ]
      show wpQuiet _ _ _ _ [_, _, _, _, _, _] _
      repeat (go_big_quiet_step (fail))
      refine wpQuiet_nil ?_
      refine wpAnyJ_writer (i := 6) rfl (by kernel_rfl) (fun K hK => ?_)
      go_simp
      refine (do_any _ p b q c s HBo.out.drew kind HOP.out.hk t v old HOP.out.hv).mono ?_
      rintro e w3 ⟨rfl, s1, hB3, hl3, ho3⟩
      have hbe3 := below_four (HBe.out.drew) (Nat.le_refl _) hp hb hq0 hc0 ho3
      have HB3 := hide hB3
      have Hl3 := hide (hl3.trans Hsl.out)
      have HE3 := hide hbe3
      have HW3 := hide (HOP.out.kept hbe3 HOP.out.lt)
      have hlt3 : Hid (ab < w3.heap.size) := HW3.out.lt
      clear hB3 hl3 ho3 hbe3 e0 e1 e2 e3 hne
      refine hK _ _ HW3.out ?_
      clear hK K
      refine wpAnyJ_class (I := (fun x => Below w3.heap.size w3 x)) (fun x hx => HW3.out.kept hx hlt3.out) ?_
      have e1 : ∀ u : Mem (fun x => Below w3.heap.size w3 x), u.w'.cell? ⟨q, 1, none⟩ = some (.int .i64 s1.kind) := fun u => cell_of_heap (HB3.out.below u.h).ra.head
      have e2 : ∀ u : Mem (fun x => Below w3.heap.size w3 x), u.w'.cell? ⟨q, 2, none⟩ = some (.int .i64 s1.place) := fun u => cell_of_heap (HB3.out.below u.h).ra.head
      have e3 : ∀ u : Mem (fun x => Below w3.heap.size w3 x), u.w'.cell? ⟨q, 3, none⟩ = some (.int .u64 (s1.old : Int)) := fun u => cell_of_heap (HB3.out.below u.h).ra.head
      have e4 : ∀ u : Mem (fun x => Below w3.heap.size w3 x), u.w'.cell? ⟨q, 4, none⟩ = some (.int .u64 (s1.new : Int)) := fun u => cell_of_heap (HB3.out.below u.h).ra.head
      have e5 : ∀ u : Mem (fun x => Below w3.heap.size w3 x), u.w'.cell? ⟨q, 5, none⟩ = some (.int .i64 s1.count) := fun u => cell_of_heap (HB3.out.below u.h).ra.head
      have hne : Nonempty (Mem (fun x => Below w3.heap.size w3 x)) := ⟨⟨_, Below.refl _ w3⟩⟩
      have HL : Hid (∀ u : Mem (fun x => Below w3.heap.size w3 x), Calls Try.prog 11 #[.pointer (some ⟨p, 0, none⟩)] u.w' fun e w'' => e = .returned (.agg #[.int .i64 s1.kind, .int .i64 s1.place, .int .u64 (s1.old : Int), .int .u64 (s1.new : Int)]) ∧ ∃ m : Mem (fun x => Below w3.heap.size w3 x), w'' = m.w') :=
        fun u => mem_call u (last_ofA _ p b s1 (HB3.out.below u.h).sa) (fun x hx => u.h.trans (hx.mono u.h.size))
      have HCn : Hid (∀ u : Mem (fun x => Below w3.heap.size w3 x), Calls Try.prog 12 #[.pointer (some ⟨p, 0, none⟩)] u.w' fun e w'' => e = .returned (.int .i64 s1.count) ∧ ∃ m : Mem (fun x => Below w3.heap.size w3 x), w'' = m.w') :=
        fun u => mem_call u (count_of _ p b s1 (HB3.out.below u.h).sa) (fun x hx => hx ▸ u.h)
      refine rest (by kernel_rfl) [7, 8, 9, 10, 11, 12, 13, 14, 15, 16, 17, 18, 19, 20, 21, 22, 23, 24, 25] (Below.refl _ w3) (by kernel_rfl) ?_
      simp only [List.filterMap_cons, List.filterMap_nil, List.getElem?_toArray, List.getElem?_cons_zero, List.getElem?_cons_succ]
      show wpQuiet _ _ _ _ [_, _, _, _, _, _, _, _, _, _, _, _, _, _, _, _, _, _, _] _
      repeat (go_big_quiet_step ((first | (go_at_call 11; exact HL.out _) | (go_at_call 12; exact HCn.out _))))
      refine wpQuiet_nil ?_
      intro w4 hw4
      clear e1 e2 e3 e4 e5 hne
      go_wp2
      go_roundw
      case rel => exact ⟨k + 1, s1, by omega, by go_num, HB3.out.below hw4, Hl3.out, HE3.out.trans (hw4.mono HE3.out.size)⟩
      case measure => simp [intOf]; omega
    · by_cases hlt1 : k < len
      · have hlt2 : ¬ k < 300 := fun h => hlt ⟨hlt1, h⟩
        clear hlt
        have HBo := hide hB
        have HBe := hide hbel
        have Hsl := hide hsl
        have hm' : Hid ((s.words.length : Int) = 1 + (n : Int) % 40) := by have := Hm.out; show (_ : Int) = _; rw [hsl]; omega
        clear hB hbel hsl
        go_wp2_with fail
        have hd : Hid (Below wr.heap.size wr wr.drew) := (Below.refl _ wr).drew
        have f0 : ∀ u : Mem (fun x => Below wr.heap.size wr x), u.w'.cell? ⟨q, 0, none⟩ = some (.slice (some ⟨c, 0, none⟩) s.words.length s.words.length) := fun u => cell_of_heap (HBo.out.below u.h).ra.head
        have hne : Nonempty (Mem (fun x => Below wr.heap.size wr x)) := ⟨⟨_, hd.out⟩⟩
        refine region_start (J := (fun x => Below wr.heap.size wr x)) (by kernel_rfl) ?_
        refine stretch (fuel := 15) (by kernel_rfl) (fun _ _ _ _ _ h => h) hd.out [0, 2] (by kernel_rfl) ?_
        simp only [List.filterMap_cons, List.filterMap_nil, List.getElem?_toArray, List.getElem?_cons_zero, List.getElem?_cons_succ]
        show wpQuiet _ _ _ _ [_, _] _
        repeat (go_big_quiet_step (fail))
        refine wpQuiet_nil ?_
        refine wpAnyJ_writer (i := 1) rfl (by kernel_rfl) (fun K hK => ?_)
        go_simp
        refine (len_of _ p b s (HBo.out.drew).sa).mono ?_
        rintro e w3 ⟨rfl, rfl⟩
        rw [hm'.out]
        refine hK _ _ hd.out ?_
        clear hK K
        refine stretch (fuel := 7) (by kernel_rfl) (fun _ _ _ _ _ h => h) hd.out [3, 4, 5, 7, 8, 9, 10] (by kernel_rfl) ?_
        simp only [List.filterMap_cons, List.filterMap_nil, List.getElem?_toArray, List.getElem?_cons_zero, List.getElem?_cons_succ]
        show wpQuiet _ _ _ _ [_, _, _, _, _, _, _] _
        repeat (go_big_quiet_step (fail))
        refine wpQuiet_nil ?_
        refine wpAnyJ_writer (i := 6) rfl (by kernel_rfl) (fun K hK => ?_)
        go_simp
        refine (words_of _ p b s (HBo.out.drew).sa).mono ?_
        rintro e w3 ⟨g, rfl, hg, hgs, hb3⟩
        have hb3' : Hid (Below wr.heap.size wr w3) := hd.out.trans (hb3.mono (by exact Nat.le_refl _))
        have hg' := hide hg
        clear hg hb3 hgs
        refine hK _ _ hb3'.out ?_
        clear hK K
        refine wpAnyJ_writer (i := 11) rfl (by kernel_rfl) (fun K hK => ?_)
        go_simp
        refine (same_words _ g c s.words hg'.out ⟨(HBo.out.below hb3'.out).ra.row⟩ HBo.out.ra.len).mono ?_
        rintro e w4 ⟨rfl, nq, rfl⟩
        have hb4 : Hid (Below wr.heap.size wr (w3.drewN nq)) := below_drewN hb3'.out nq
        refine hK _ _ hb4.out ?_
        clear hK K
        refine stretch (fuel := 3) (by kernel_rfl) (fun _ _ _ _ _ h => h) hb4.out [12, 13] (by kernel_rfl) ?_
        simp only [List.filterMap_cons, List.filterMap_nil, List.getElem?_toArray, List.getElem?_cons_zero, List.getElem?_cons_succ]
        show wpQuiet _ _ _ _ [_, _] _
        repeat (go_big_quiet_step (fail))
        refine wpQuiet_nil ?_
        refine wpAnyJ_writer (i := 14) rfl (by kernel_rfl) (fun K hK => ?_)
        go_simp
        refine (awake2 _).mono ?_
        rintro e w5 ⟨rfl, hb5⟩
        have hb5' : Hid (Below wr.heap.size wr w5) := hb4.out.trans (hb5.mono hb4.out.size)
        refine hK _ _ hb5'.out ?_
        clear hK K
        refine stretch (fuel := 0) (by kernel_rfl) (fun _ _ _ _ _ h => h) hb5'.out [15, 16] (by kernel_rfl) ?_
        simp only [List.filterMap_cons, List.filterMap_nil, List.getElem?_toArray, List.getElem?_cons_zero, List.getElem?_cons_succ]
        show wpQuiet _ _ _ _ [_, _] _
        repeat (go_big_quiet_step (fail))
        refine wpQuiet_nil ?_
        refine wpAnyJ_done (by kernel_rfl) ?_
        clear f0 hne
        go_wp2
        go_ret
        exact ⟨rfl, HBe.out.trans (hb5'.out.mono HBe.out.size)⟩
      · clear hlt
        have HBo := hide hB
        have HBe := hide hbel
        have Hsl := hide hsl
        have hm' : Hid ((s.words.length : Int) = 1 + (n : Int) % 40) := by have := Hm.out; show (_ : Int) = _; rw [hsl]; omega
        clear hB hbel hsl
        go_wp2_with fail
        have hd : Hid (Below wr.heap.size wr wr.drew) := (Below.refl _ wr).drew
        have f0 : ∀ u : Mem (fun x => Below wr.heap.size wr x), u.w'.cell? ⟨q, 0, none⟩ = some (.slice (some ⟨c, 0, none⟩) s.words.length s.words.length) := fun u => cell_of_heap (HBo.out.below u.h).ra.head
        have hne : Nonempty (Mem (fun x => Below wr.heap.size wr x)) := ⟨⟨_, hd.out⟩⟩
        refine region_start (J := (fun x => Below wr.heap.size wr x)) (by kernel_rfl) ?_
        refine stretch (fuel := 15) (by kernel_rfl) (fun _ _ _ _ _ h => h) hd.out [0, 2] (by kernel_rfl) ?_
        simp only [List.filterMap_cons, List.filterMap_nil, List.getElem?_toArray, List.getElem?_cons_zero, List.getElem?_cons_succ]
        show wpQuiet _ _ _ _ [_, _] _
        repeat (go_big_quiet_step (fail))
        refine wpQuiet_nil ?_
        refine wpAnyJ_writer (i := 1) rfl (by kernel_rfl) (fun K hK => ?_)
        go_simp
        refine (len_of _ p b s (HBo.out.drew).sa).mono ?_
        rintro e w3 ⟨rfl, rfl⟩
        rw [hm'.out]
        refine hK _ _ hd.out ?_
        clear hK K
        refine stretch (fuel := 7) (by kernel_rfl) (fun _ _ _ _ _ h => h) hd.out [3, 4, 5, 7, 8, 9, 10] (by kernel_rfl) ?_
        simp only [List.filterMap_cons, List.filterMap_nil, List.getElem?_toArray, List.getElem?_cons_zero, List.getElem?_cons_succ]
        show wpQuiet _ _ _ _ [_, _, _, _, _, _, _] _
        repeat (go_big_quiet_step (fail))
        refine wpQuiet_nil ?_
        refine wpAnyJ_writer (i := 6) rfl (by kernel_rfl) (fun K hK => ?_)
        go_simp
        refine (words_of _ p b s (HBo.out.drew).sa).mono ?_
        rintro e w3 ⟨g, rfl, hg, hgs, hb3⟩
        have hb3' : Hid (Below wr.heap.size wr w3) := hd.out.trans (hb3.mono (by exact Nat.le_refl _))
        have hg' := hide hg
        clear hg hb3 hgs
        refine hK _ _ hb3'.out ?_
        clear hK K
        refine wpAnyJ_writer (i := 11) rfl (by kernel_rfl) (fun K hK => ?_)
        go_simp
        refine (same_words _ g c s.words hg'.out ⟨(HBo.out.below hb3'.out).ra.row⟩ HBo.out.ra.len).mono ?_
        rintro e w4 ⟨rfl, nq, rfl⟩
        have hb4 : Hid (Below wr.heap.size wr (w3.drewN nq)) := below_drewN hb3'.out nq
        refine hK _ _ hb4.out ?_
        clear hK K
        refine stretch (fuel := 3) (by kernel_rfl) (fun _ _ _ _ _ h => h) hb4.out [12, 13] (by kernel_rfl) ?_
        simp only [List.filterMap_cons, List.filterMap_nil, List.getElem?_toArray, List.getElem?_cons_zero, List.getElem?_cons_succ]
        show wpQuiet _ _ _ _ [_, _] _
        repeat (go_big_quiet_step (fail))
        refine wpQuiet_nil ?_
        refine wpAnyJ_writer (i := 14) rfl (by kernel_rfl) (fun K hK => ?_)
        go_simp
        refine (awake2 _).mono ?_
        rintro e w5 ⟨rfl, hb5⟩
        have hb5' : Hid (Below wr.heap.size wr w5) := hb4.out.trans (hb5.mono hb4.out.size)
        refine hK _ _ hb5'.out ?_
        clear hK K
        refine stretch (fuel := 0) (by kernel_rfl) (fun _ _ _ _ _ h => h) hb5'.out [15, 16] (by kernel_rfl) ?_
        simp only [List.filterMap_cons, List.filterMap_nil, List.getElem?_toArray, List.getElem?_cons_zero, List.getElem?_cons_succ]
        show wpQuiet _ _ _ _ [_, _] _
        repeat (go_big_quiet_step (fail))
        refine wpQuiet_nil ?_
        refine wpAnyJ_done (by kernel_rfl) ?_
        clear f0 hne
        go_wp2
        go_ret
        exact ⟨rfl, HBe.out.trans (hb5'.out.mono HBe.out.size)⟩

set_option maxRecDepth 100000 in
theorem lifted (os : Os) (started : os.Started) (H : Type) (enc : TypeId × Value → H) :
    ReturnsInHanded {} Try.checked os 3 .any (Rows.storeRunsSpec.pre6 enc Try.prog Try.f3 Rows.storeRunsRow.domain false) (Rows.storeRunsSpec.post enc Try.prog Try.f3 false true false false) := by
  refine returnsInHanded_of_change (C := Try.checked) own started (by kernel_rfl) Try.func3
    (ChangeSpec.witness6 (enc := enc) (C := Try.checked) false ⟨#[], #[.int .u8 0, .slice none 0 0], []⟩ 8 (by kernel_rfl) (by kernel_rfl) (by kernel_rfl) (by kernel_rfl)) ?_
  intro W base args ds gs before hval0 hW _ _
  have hval : ∀ (j : Nat) t v, Try.f3.params[j]? = some t → args[j]? = some v → Value.okWide Try.prog W .any base t v := hval0
  have hW' := hW
  obtain ⟨p, q, hA0, hV, rfl, hfz, hnd⟩ := hW
  have hA : DataW.TrodAll enc Try.prog W 0 (fun _ => true) true Try.f3.params.toList args.toList ds p := hA0
  rw [Try.params3] at hA hval
  obtain ⟨v0, vs0, d0, ds0, p0, q0, hargs, rfl, rfl, h0, r0⟩ := trodAll_cons hA
  obtain ⟨v1, vs1, d1, ds1, p1, q1, rfl, rfl, rfl, h1, r1⟩ := trodAll_cons r0
  obtain ⟨rfl, rfl, rfl⟩ := trodAll_nil r1
  obtain rfl : args = #[v0, v1] := by cases args; simp_all
  obtain ⟨rfl, rfl⟩ := trodVars_none hV
  obtain ⟨a0, rfl, rfl, rfl, w0⟩ := open_int Try.underlying5 (hval 0 5 v0 rfl rfl) h0
  have h1k := h1
  have lt1 : ∀ x ∈ p1, x.block < W.heap.size := fun x hx => hW'.lt x (by simp [hx])
  obtain ⟨l1_0, l1_1, l1_2, rfl, f1_0, f1_1, f1_2⟩ := open_ops (hval 1 22 v1 rfl rfl) h1
  clear hA0 hval0
  obtain ⟨x0, hx0, rfl⟩ := u8_nat w0
  refine (walk x0 hx0 l1_0 l1_1 l1_2 f1_0 f1_1 W f1_2).mono fun e W' ⟨he, bel⟩ => ?_
  subst he
  exact ⟨_, rfl, _, _, _, [], _, [], hW', trodAll_mk1 (shut_bool Try.underlying4 _), (trodAll_cons_mk (shut_int Try.underlying5 w0) (trodAll_cons_mk (Below.trod laidOut (by kernel_rfl) (of_decide_eq_true (by kernel_rfl)) h1k bel lt1) trodAll_mk0)), rfl, bel.frame _, fun h => by cases h⟩

end Go.Proofs.Ytlanfpefifegpaa.storeRuns
namespace Go.Proofs.Ytlanfpefifegpaa

theorem storeRuns_holds : Rows.StoreRunsSaid :=
  OpenClaim.holds_of_wide 3 Try.f3 rfl rfl rfl rfl rfl rfl rfl ⟨rfl, rfl, rfl, rfl, rfl⟩ rfl rfl rfl rfl rfl (by kernel_rfl) Try.func3 (by kernel_rfl)
    (of_decide_eq_true (by kernel_rfl)) (by unfold Func.isWrapper; first | (rw [if_pos (by decide +kernel)]; kernel_rfl) | (rw [if_neg (by decide +kernel)]; exact ⟨rfl, rfl⟩))
    (fun os started H enc _ => storeRuns.lifted os started H enc)
end Go.Proofs.Ytlanfpefifegpaa
