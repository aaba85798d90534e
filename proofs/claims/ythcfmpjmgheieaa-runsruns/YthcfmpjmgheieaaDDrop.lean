/- The document's tree: Drop. -/
import Derived.Test.YthcfmpjmgheieaaDPut
namespace Go.Proofs.Ythcfmpjmgheieaa
open Go.RowKit

theorem del_place {L : List (It Int)} {key : Int} {p : Nat} (hr : Rising L) (hp : p < L.length) (hk : L[p].1 = key) : delL key L = L.take p ++ L.drop (p + 1) := by
  have e : L = L.take p ++ L[p] :: L.drop (p + 1) := by rw [List.getElem_cons_drop, List.take_append_drop]
  have hr' := hr
  rw [e] at hr'
  obtain ⟨_, _, h1, h2, _⟩ := Rising.app hr'
  conv => lhs; rw [e]
  unfold delL
  rw [List.filter_append, List.filter_cons_of_neg (by simp [hk])]
  congr 1
  · rw [List.filter_eq_self]; intro i hi; have := h1 i hi; simp; omega
  · rw [List.filter_eq_self]; intro i hi; have := h2 i hi; simp; omega

theorem ddropNo (w : World) (r o : Nat) (v : Value) (L : List (It Int)) (h : DAt w r o v L) (key : Int) (hl : L.length ≤ 1000000) (hg : getL key L = none) :
    Calls Try.prog 47 #[.pointer (some ⟨r, o, none⟩), .int .i64 key] w fun e w' => e = .returned (.tuple #[.int .i64 0, .bool false]) ∧ w' = w := by
  have HH := hide (hasT w r o v L h key hl)
  rw [hg, Option.isSome_none] at HH
  clear h hg
  go_enter Try.func47, Try.ntmps47
  go_wp2_with fail
  refine HH.out.mono ?_
  rintro e w1 ⟨rfl, rfl⟩
  go_wp2
  go_ret2
  exact ⟨rfl, rfl⟩

set_option maxRecDepth 100000 in
set_option maxHeartbeats 4000000 in
theorem ddropYes (w : World) (r o : Nat) (v : Value) (L : List (It Int)) (h : DAt w r o v L) (key k : Int) (d : Nat) (x : Int) (hg : getL key L = some (k, d, x)) (hl : L.length ≤ 1000000) :
    Calls Try.prog 47 #[.pointer (some ⟨r, o, none⟩), .int .i64 key] w fun e w' => e = .returned (.tuple #[.int .i64 x, .bool true]) ∧ ∃ v' W, w' = W.setCell ⟨r, o, none⟩ v' ∧ Below w.heap.size w W ∧ W.ownsRow w.heap.size 132 3 v' (L.length - 1) (itemVals (delL key L)) := by
  obtain ⟨i0, hi, hz0, hz1, hz2⟩ := info_parts infoItem
  have HH := hide (hasT w r o v L h key hl)
  rw [hg, Option.isSome_some] at HH
  obtain ⟨p, hp⟩ := place_there L key
  have HP := hide (placeP w r o v L h key hl p hp)
  obtain ⟨hpl, hpe, _⟩ := place_some h.ris hp hg
  have HI := hide (del_place (key := key) h.ris hpl (by rw [hpe]; exact (getL_spec hg).2))
  obtain ⟨a, c, rfl⟩ := h.slice
  have c0 := h.head
  have HD := hide h
  obtain ⟨ga, rfl, _, _, cx⟩ := h.at hpl
  rw [hpe] at cx
  simp only at cx
  obtain ⟨m, hm⟩ : ∃ m, L.length = m := ⟨_, rfl⟩
  have HM := hide hm
  rw [hm] at c0 hl hpl ⊢
  have hcap : m ≤ c ∧ c ≤ 9223372036854775807 := by
    have := HD.out.row
    rcases this.2 with ⟨e, e0⟩ | ⟨g, cap, cur, e, _, _, e1, e2, _⟩
    · omega
    · cases e; unfold maxLen at e2; omega
  clear h hg hp hm hpe
  go_enter Try.func47, Try.ntmps47
  go_wp2_with fail
  refine HH.out.mono ?_
  rintro e w1 ⟨rfl, rfl⟩
  go_wp2_with fail
  refine HP.out.mono ?_
  rintro e w2 ⟨rfl, rfl⟩
  have C0 : Hid (CellIs r o (.slice (some ⟨ga, 0, none⟩) m c) w2.drew) := hide c0
  have u0 : ∀ u : Mem (CellIs r o (.slice (some ⟨ga, 0, none⟩) m c)), u.w'.cell? ⟨r, o, none⟩ = some (.slice (some ⟨ga, 0, none⟩) m c) := fun u => u.h
  have hne : Nonempty (Mem (CellIs r o (.slice (some ⟨ga, 0, none⟩) m c))) := ⟨⟨_, C0.out⟩⟩
  clear HH HP
  go_wp2
  refine startL 19 (J := CellIs r o (.slice (some ⟨ga, 0, none⟩) m c)) (by kernel_rfl) ?_
  refine stretchL (fuel := 6) (by kernel_rfl) (fun _ _ _ _ _ h => h) C0.out [0, 2, 3, 4, 5, 6, 7, 9, 10, 11, 12, 13, 14, 15] (by kernel_rfl) ?_
  simp only [List.filterMap_cons, List.filterMap_nil, List.getElem?_toArray, List.getElem?_cons_zero, List.getElem?_cons_succ]
  show wpQuiet _ _ _ _ [_, _, _, _, _, _, _, _, _, _, _, _, _, _] _
  repeat (go_big_quiet_step (fail))
  refine wpQuiet_nil ?_
  obtain ⟨S, hS⟩ : ∃ S, w2.heap.size = S := ⟨_, rfl⟩
  have HS := hide hS
  have hSr : r < S := by rw [← hS]; exact HD.out.lt
  have HCI : Hid (∀ U, Below S w2 U → CellIs r o (.slice (some ⟨ga, 0, none⟩) m c) U) := hide (fun U hU => (hU.cell (p := ⟨r, o, none⟩) hSr).trans c0)
  have HR0 := hide HD.out.row
  have HX1 : Hid (∀ U, Below S w2 U → Src U (.slice (some ⟨ga, 0, none⟩) p c) p (itemVals (L.take p))) := hide (fun U hU => src_take HR0.out (by rw [HS.out]; exact hU) p (by rw [HM.out]; omega) c)
  have HX2 : Hid (∀ U, Below S w2 U → Src U (.slice (if c = p + 1 then some ⟨ga, 0, none⟩ else some ⟨ga, (p + 1) * 3, none⟩) (m - (p + 1)) (c - (p + 1))) (m - (p + 1)) (itemVals (L.drop (p + 1)))) := hide (fun U hU => by
    have hm0 := HM.out
    by_cases hcp : c = p + 1
    · rw [if_pos hcp]
      have := src_drop (w := w2) HR0.out (by rw [HS.out]; exact hU) (p + 1) (by omega) (c - (p + 1)) 0 (fun h => by omega)
      rw [hm0] at this; exact this
    · rw [if_neg hcp]
      have := src_drop (w := w2) HR0.out (by rw [HS.out]; exact hU) (p + 1) (by omega) (c - (p + 1)) ((p + 1) * 3) (fun _ => rfl)
      rw [hm0] at this; exact this)
  have HIT : Hid (itemVals (L.take p) ++ itemVals (L.drop (p + 1)) = itemVals (delL key L)) := hide (by rw [HI.out, itemVals_app])
  have HL1 : Hid ((itemVals (L.take p)).length = p * 3) := hide (by rw [itemVals_length, List.length_take]; have := HM.out; omega)
  have HL2 : Hid ((itemVals (L.drop (p + 1))).length = (m - (p + 1)) * 3) := hide (by rw [itemVals_length, List.length_drop]; have := HM.out; omega)
  have HN1 := hide (itemVals_one (L.take p))
  have HN2 := hide (itemVals_one (L.drop (p + 1)))
  have HFZ : Hid (∀ U, Below S w2 U → U.frozen? ⟨r, o, none⟩ = false) := hide (fun U hU => by have := HD.out.froz; unfold World.frozen? at this ⊢; rw [hU.block r hSr]; exact this)
  generalize (if c = p + 1 then some ⟨ga, 0, none⟩ else some ⟨ga, (p + 1) * 3, none⟩ : Option Addr) = xa at *
  clear c0 cx hS C0 u0 hne HD HI HM HR0
  refine writerL (i := 1) rfl (by kernel_rfl) rfl (fun K hK => ?_)
  go_simp
  have b1 : Below S w2 (w2.alloc (.cells #[] 132)).drew := ((Below.refl S w2).alloc (by have := HS.out; omega) (.cells #[] 132)).trans ((Alike.drewN _ 1).below _)
  have s1 : S ≤ (w2.alloc (.cells #[] 132)).drew.heap.size := by show S ≤ (w2.alloc (.cells #[] 132)).heap.size; simp; have := HS.out; omega
  have own1 : (w2.alloc (.cells #[] 132)).drew.ownsRow S 132 3 (.slice (some ⟨w2.heap.size, 0, none⟩) 0 0) 0 [] := ownsRow_alike (w := w2.alloc (.cells #[] 132)) ⟨rfl, .inr ⟨w2.heap.size, 0, #[], rfl, by have := HS.out; omega, heap_alloc_at _ _, Nat.le_refl _, Nat.zero_le _, rfl, rfl⟩⟩ ⟨rfl, rfl, rfl, rfl⟩
  refine hK _ _ (fun _ => HCI.out _ b1) ?_
  clear hK K
  generalize (w2.alloc (.cells #[] 132)).drew = U1 at *
  refine writerL (i := 8) rfl (by kernel_rfl) rfl (fun K hK => ?_)
  refine oper_append _ _ _ 86 rfl S 132 i0 (.agg #[.int .i64 0, .int .u32 0, .int .i64 0]) 3 24 Try.underlying86 hi hz0 hz1 hz2 rfl (by decide) (.slice (some ⟨w2.heap.size, 0, none⟩) 0 0) 0 [] rfl own1 p (itemVals (L.take p)) (HX1.out _ b1) HL1.out HN1.out (by unfold maxLen; omega) (by omega) s1 ?_
  intro v8 u8 own8 hgr hat
  have b8 : Below S w2 u8 := b1.trans (grown_below own1 hgr s1)
  have s8 : S ≤ u8.heap.size := Nat.le_trans s1 hgr.size
  rw [List.nil_append, Nat.zero_add] at own8
  refine hK _ _ (fun _ => HCI.out _ b8) ?_
  clear hK K
  simp only [Act.put, List.getElem_toArray, List.getElem_cons_succ, List.getElem_cons_zero, List.setIfInBounds_toArray, List.set_cons_succ, List.set_cons_zero]
  refine writerL (i := 16) rfl (by kernel_rfl) rfl (fun K hK => ?_)
  refine oper_append _ _ _ 86 rfl S 132 i0 (.agg #[.int .i64 0, .int .u32 0, .int .i64 0]) 3 24 Try.underlying86 hi hz0 hz1 hz2 rfl (by decide) v8 p (itemVals (L.take p)) rfl own8 (m - (p + 1)) (itemVals (L.drop (p + 1))) (HX2.out _ b8) HL2.out HN2.out (by unfold maxLen; omega) (by omega) s8 ?_
  intro v21 u21 own21 hgr hat
  have b21 : Below S w2 u21 := b8.trans (grown_below own8 hgr s8)
  have s21 : S ≤ u21.heap.size := Nat.le_trans s8 hgr.size
  obtain ⟨a21, c21, rfl⟩ := ownsRow_slice own21
  refine hK _ _ (fun _ => HCI.out _ b21) ?_
  clear hK K
  simp only [Act.put, List.getElem_toArray, List.getElem_cons_succ, List.getElem_cons_zero, List.setIfInBounds_toArray, List.set_cons_succ, List.set_cons_zero]
  refine writerL (i := 17) rfl (by kernel_rfl) rfl (fun K hK => ?_)
  go_simp
  refine hK _ _ (fun _ => HCI.out _ b21) ?_
  clear hK K
  refine writerL (i := 18) rfl (by kernel_rfl) rfl (fun K hK => ?_)
  go_simp
  refine hK _ _ (fun _ => HCI.out _ b21) ?_
  clear hK K
  refine writerL (i := 19) rfl (by kernel_rfl) rfl (fun K hK => ?_)
  have y0 : u21.cell? ⟨r, o, none⟩ = some (.slice (some ⟨ga, 0, none⟩) m c) := HCI.out _ b21
  have yf := HFZ.out _ b21
  go_simp
  refine hK _ _ (fun h => absurd rfl h) ?_
  clear hK K
  refine doneL (by kernel_rfl) ?_
  have HB21 := hide b21
  have HO21 := hide own21
  clear y0 yf b21 own21 own8 b8
  go_wp2
  go_ret2
  refine ⟨rfl, _, u21, rfl, ?_, ?_⟩
  · rw [HS.out]; exact HB21.out
  · have e := HO21.out
    have he : p + (m - (p + 1)) = m - 1 := by omega
    rw [HIT.out, he] at e
    rw [HS.out, he]; exact e
end Go.Proofs.Ythcfmpjmgheieaa
