/- A head that is turned between the load and the swap, even to the same page, loses the swap, and then all is done anew: the law StackLost answers true at every input, and its arguments read behind the call as they read before. -/
import Derived.Test.YtigokeocphbffaaStkLost
namespace Go.Proofs.Ytigokeocphbffaa.stackLost
open Go.ChangeShapes Go.WideShapes Go.ChangeAt Go.RowKit

def lay40 : Obj := .cells #[.int .i64 40, .int .i64 1] 26 (0, 0)

theorem ll {R : Res} (l : Loc R) {m : Nat} {o : Obj} : Loc (Sep (BO m o) R) := Loc.bo.sep l

set_option maxRecDepth 100000 in
set_option maxHeartbeats 16000000 in
/-- The law, the pages being told. -/
theorem main (a : Nat) (ha : a < 256) (b : Nat) (hb : b < 256) (pop : Bool) (p r' q : Nat) (hp : a % 40 = p) (hr : b % 40 = r') (hq : (if p = r' then (p + 1) % 40 else r') = q) (w : World) :
    Calls Try.prog 5 #[.int .u8 (a : Int), .int .u8 (b : Int), .bool pop] w fun e w' => e = .returned (.bool true) ∧ Below w.heap.size w w' := by
  have hp4 : p < 40 := by omega
  have hq4 : q < 40 := by rw [← hq]; split <;> omega
  have hn : p ≠ q := by rw [← hq]; split <;> omega
  have hpI : (a : Int) % 40 = (p : Int) := by omega
  have hrI : (b : Int) % 40 = (r' : Int) := by omega
  have hqI : p = r' → ((p : Int) + 1) % 40 = (q : Int) := fun e => by rw [if_pos e] at hq; omega
  have hqN : p ≠ r' → r' = q := fun e => by rw [if_neg e] at hq; exact hq
  have okp := ok40 hp4
  have okq := ok40 hq4
  have F1 := lost0 p q hp4 hn
  have hf := didField0
  have hW : (Lay.words 40 1).toNat = 324 := by decide
  have A1 := fun (R : Res) (w0 u : World) (l : Loc R) (ho : Own R w0 u) => @anew R w0 u l ho 40 1 (by decide) [] (by simp) none 0 (fun _ => ⟨rfl, rfl⟩) (fun h => absurd rfl h)
  rw [show ((40 : Nat) : Int) = 40 from rfl, hW] at A1
  generalize (St.first 324).words.getD (84 + 5 * q) 0 = c0 at *
  have hl0 : (St.first 324).words.length = 324 := St.first_len 324
  generalize St.first 324 = s0 at *
  generalize ([(kOf 0 (40 : Nat), ([] : List Nat).getD 0 0, ())] : RL) = rl at *
  have HA1 := hide A1
  have HF1 := hide F1
  have HL0 := hide hl0
  have HWW := hide hW
  have HOKP := hide okp
  have HOKQ := hide okq
  have NPOP := hide (fun u => newPopYes 40 1 8 (by decide) u)
  have NPUSH := hide (fun u => newPushYes 40 1 8 (q : Int) (by decide) okq u)
  have HQI := hide hqI
  have HQN := hide hqN
  clear A1 F1 hl0 hW okp okq hqI hqN hp hr hq
  have b1 := heap_alloc_at w (.cells #[.int .i64 40, .int .i64 1] 26)
  have HB1 := hide (grown1 w (.cells #[.int .i64 40, .int .i64 1] 26))
  have HBX := hide b1
  clear b1
  have O1 := hide (Own.boNew (m := w.heap.size) (o := lay40) Loc.nought (Own.start w) HBX.out (Nat.le_refl _) HB1.out)
  clear HBX HB1
  go_enter Try.func5, Try.ntmps5
  go_wp2_with fail
  generalize w.alloc (.cells #[.int .i64 40, .int .i64 1] 26) = w1 at *
  generalize w.heap.size = bl at *
  have lB : Loc (Sep (BO bl lay40) Nought) := Loc.bo.sep Loc.nought
  refine (HA1.out _ _ _ lB O1.out).mono ?_
  rintro e w2 ⟨qa, pa, ra, rfl, o2⟩
  have O2 := hide o2
  clear o2 HA1 O1
  have l0 : w2.cell? ⟨bl, 0, none⟩ = some (.int .i64 40) := cell_of_heap (O2.out.has (m := bl) (o := lay40) (R := Sep (AX qa 40 1 pa ra s0 40 [] 1 rl) Nought) (by ac_rfl))
  have l1 : w2.cell? ⟨bl, 1, none⟩ = some (.int .i64 1) := cell_of_heap (O2.out.has (m := bl) (o := lay40) (R := Sep (AX qa 40 1 pa ra s0 40 [] 1 rl) Nought) (by ac_rfl))
  by_cases hpr : p = r'
  · have dpr : ((p : Int) == (r' : Int)) = true := by simp [hpr]
    have dpN : (p == r') = true := by simp [hpr]
    have eq1 := HQI.out hpr
    clear hpr HQN
    go_wp2_with fail
    refine (lawPush lB O2.out (p : Int) HOKP.out (by rw [HL0.out, HWW.out])).mono ?_
    rintro e w3 ⟨rfl, s1, e1, o3⟩
    have F1 : Hid (Fx p q s1.words (Tg.head 1 p) 0 c0) := hide (by rw [e1]; exact HF1.out)
    have O3 := hide o3
    clear e1 o3 O2 l0 l1 HF1 HL0
    go_wp2
    have O4 := hide (O3.out.below (Loc.ax.sep lB) ((Alike.drewN w3 1).below _))
    have J4 : Hid (BkAt bl lay40 w3.drew) := hide (O4.out.has (R := Sep (AX qa 40 1 pa ra s1 40 [] 1 rl) Nought) (by ac_rfl))
    have hne : Nonempty (Mem (BkAt bl lay40)) := ⟨⟨_, J4.out⟩⟩
    have U0 : ∀ u : Mem (BkAt bl lay40), u.w'.cell? ⟨bl, 0, none⟩ = some (.int .i64 40) := fun u => cell_of_heap u.h
    have U1 : ∀ u : Mem (BkAt bl lay40), u.w'.cell? ⟨bl, 1, none⟩ = some (.int .i64 1) := fun u => cell_of_heap u.h
    refine region_start (J := BkAt bl lay40) (by kernel_rfl) ?_
    refine stretch (fuel := 4) (by kernel_rfl) (fun _ _ _ _ _ h => h) J4.out [0, 2, 3] (by kernel_rfl) ?_
    simp only [List.filterMap_cons, List.filterMap_nil, List.getElem?_toArray, List.getElem?_cons_zero, List.getElem?_cons_succ]
    show wpQuiet _ _ _ _ [_, _, _] _
    repeat (go_big_quiet_step (fail))
    refine wpQuiet_nil ?_
    refine wpAnyJ_writer (i := 1) rfl (by kernel_rfl) (fun K' hK => ?_)
    go_simp
    refine (NPOP.out _).mono ?_
    rintro e w5 ⟨mx, rfl, h1, h2, h3⟩
    have O5 := hide (Own.boNew (o := popM 40 1 8 ⟨0, 0, 0, 0⟩) (Loc.ax.sep lB) O4.out h1 h2 h3)
    have J5 : Hid (BkAt bl lay40 w5) := hide (O5.out.has (R := Sep (BO mx (popM 40 1 8 ⟨0, 0, 0, 0⟩)) (Sep (AX qa 40 1 pa ra s1 40 [] 1 rl) Nought)) (by ac_rfl))
    refine hK _ _ J5.out ?_
    clear hK K' h1 h2 h3 O3 O4 J4
    refine wpAnyJ_writer (i := 4) rfl (by kernel_rfl) (fun K' hK => ?_)
    go_simp
    refine (NPUSH.out _).mono ?_
    rintro e w6 ⟨my, rfl, h1, h2, h3⟩
    have O6 := hide (Own.boNew (o := pushM 40 1 8 ⟨0, 0, q⟩) (Loc.bo.sep (Loc.ax.sep lB)) O5.out h1 h2 h3)
    have J6 : Hid (BkAt bl lay40 w6) := hide (O6.out.has (R := Sep (BO my (pushM 40 1 8 ⟨0, 0, q⟩)) (Sep (BO mx (popM 40 1 8 ⟨0, 0, 0, 0⟩)) (Sep (AX qa 40 1 pa ra s1 40 [] 1 rl) Nought))) (by ac_rfl))
    refine hK _ _ J6.out ?_
    clear hK K' h1 h2 h3 O5 J5
    refine stretch (fuel := 0) (by kernel_rfl) (fun _ _ _ _ _ h => h) J6.out [5, 6] (by kernel_rfl) ?_
    simp only [List.filterMap_cons, List.filterMap_nil, List.getElem?_toArray, List.getElem?_cons_zero, List.getElem?_cons_succ]
    show wpQuiet _ _ _ _ [_, _] _
    repeat (go_big_quiet_step (fail))
    refine wpQuiet_nil ?_
    refine wpAnyJ_done (by kernel_rfl) ?_
    clear U0 U1 hne J6 NPUSH
    obtain ⟨s2, s3, s4, s5, s6, s7, s8, q1, q2, q3, q4, q5, q6, q7, lens, F8⟩ := lostA p q hp4 hq4 hn c0 s1 F1.out
    obtain ⟨n1, n2, n3, n4, n5, n6, n7⟩ := lens
    have XY : ∀ k, k < 2 → ∀ (u : World), Own (Sep (BO mx (popM 40 1 8 (four ⟨0, 0, 0, 0⟩ ⟨1, Tg.head 1 p, p, 0⟩ ⟨2, Tg.head 1 p, p, -1⟩ ⟨2, Tg.head 1 p, p, -1⟩ k))) (Sep (BO my (pushM 40 1 8 (four ⟨0, 0, q⟩ ⟨1, Tg.head 1 p, q⟩ ⟨2, Tg.head 1 p, q⟩ ⟨2, Tg.head 1 p, q⟩ k))) (Sep (AX qa 40 1 pa ra (four s1 s3 s5 s5 k) 40 [] 1 rl) (Sep (BO bl lay40) Nought)))) w u →
        Hid (Calls Try.prog 13 #[.pointer (some ⟨mx, 0, none⟩), .pointer (some ⟨qa, 0, none⟩)] u fun e u' => (∃ v, e = .returned v) ∧ Hid (Calls Try.prog 11 #[.pointer (some ⟨my, 0, none⟩), .pointer (some ⟨qa, 0, none⟩)] u' fun e u'' => (∃ v, e = .returned v) ∧
          Own (Sep (BO mx (popM 40 1 8 (four ⟨0, 0, 0, 0⟩ ⟨1, Tg.head 1 p, p, 0⟩ ⟨2, Tg.head 1 p, p, -1⟩ ⟨2, Tg.head 1 p, p, -1⟩ (k + 1)))) (Sep (BO my (pushM 40 1 8 (four ⟨0, 0, q⟩ ⟨1, Tg.head 1 p, q⟩ ⟨2, Tg.head 1 p, q⟩ ⟨2, Tg.head 1 p, q⟩ (k + 1)))) (Sep (AX qa 40 1 pa ra (four s1 s3 s5 s5 (k + 1)) 40 [] 1 rl) (Sep (BO bl lay40) Nought)))) w u'')) := by
      have hb := Tg.head_lt 1 (p : Int) (by omega) (by omega) (by omega)
      intro k hk u ho
      match k, hk with
      | 0, _ =>
        refine hide ((popE (Loc.bo.sep lB) (ho.cast (R' := Sep (BO mx (popM 40 1 8 ⟨0, 0, 0, 0⟩)) (Sep (AX qa 40 1 pa ra s1 40 [] 1 rl) (Sep (BO my (pushM 40 1 8 ⟨0, 0, q⟩)) (Sep (BO bl lay40) Nought)))) (by rw [show (four s1 s3 s5 s5 0) = s1 from rfl]; simp only [four]; ac_rfl)) q1 rfl (by omega) (by simp) (.inl rfl) (fun h => absurd h (by simp)) (by rw [n1, HWW.out])).mono fun e u' ⟨h1, h2⟩ => ⟨⟨_, h1⟩, hide ?_⟩)
        refine (pushE (Loc.bo.sep lB) (h2.cast (R' := Sep (BO my (pushM 40 1 8 ⟨0, 0, q⟩)) (Sep (AX qa 40 1 pa ra s2 40 [] 1 rl) (Sep (BO mx (popM 40 1 8 ⟨1, Tg.head 1 p, p, 0⟩)) (Sep (BO bl lay40) Nought)))) (by ac_rfl)) q2 rfl (by omega) (by simp) (.inl rfl) HOKQ.out (by rw [n2, HWW.out])).mono fun e u'' ⟨g1, g2⟩ => ⟨⟨_, g1⟩, g2.cast ?_⟩
        show _ = Sep (BO mx (popM 40 1 8 ⟨1, Tg.head 1 p, p, 0⟩)) (Sep (BO my (pushM 40 1 8 ⟨1, Tg.head 1 p, q⟩)) (Sep (AX qa 40 1 pa ra s3 40 [] 1 rl) (Sep (BO bl lay40) Nought)))
        ac_rfl
      | 1, _ =>
        refine hide ((popE (Loc.bo.sep lB) (ho.cast (R' := Sep (BO mx (popM 40 1 8 ⟨1, Tg.head 1 p, p, 0⟩)) (Sep (AX qa 40 1 pa ra s3 40 [] 1 rl) (Sep (BO my (pushM 40 1 8 ⟨1, Tg.head 1 p, q⟩)) (Sep (BO bl lay40) Nought)))) (by simp only [four]; ac_rfl)) q3 rfl (by omega) hb (.inr (.inl rfl)) (fun _ => HOKP.out) (by rw [n3, HWW.out])).mono fun e u' ⟨h1, h2⟩ => ⟨⟨_, h1⟩, hide ?_⟩)
        refine (pushE (Loc.bo.sep lB) (h2.cast (R' := Sep (BO my (pushM 40 1 8 ⟨1, Tg.head 1 p, q⟩)) (Sep (AX qa 40 1 pa ra s4 40 [] 1 rl) (Sep (BO mx (popM 40 1 8 ⟨2, Tg.head 1 p, p, -1⟩)) (Sep (BO bl lay40) Nought)))) (by ac_rfl)) q4 rfl (by omega) hb (.inr (.inl rfl)) HOKQ.out (by rw [n4, HWW.out])).mono fun e u'' ⟨g1, g2⟩ => ⟨⟨_, g1⟩, g2.cast ?_⟩
        show _ = Sep (BO mx (popM 40 1 8 ⟨2, Tg.head 1 p, p, -1⟩)) (Sep (BO my (pushM 40 1 8 ⟨2, Tg.head 1 p, q⟩)) (Sep (AX qa 40 1 pa ra s5 40 [] 1 rl) (Sep (BO bl lay40) Nought)))
        ac_rfl
    have I0 : Hid (Own (Sep (BO mx (popM 40 1 8 (four ⟨0, 0, 0, 0⟩ ⟨1, Tg.head 1 p, p, 0⟩ ⟨2, Tg.head 1 p, p, -1⟩ ⟨2, Tg.head 1 p, p, -1⟩ 0))) (Sep (BO my (pushM 40 1 8 (four ⟨0, 0, q⟩ ⟨1, Tg.head 1 p, q⟩ ⟨2, Tg.head 1 p, q⟩ ⟨2, Tg.head 1 p, q⟩ 0))) (Sep (AX qa 40 1 pa ra (four s1 s3 s5 s5 0) 40 [] 1 rl) (Sep (BO bl lay40) Nought)))) w w6) := hide (O6.out.cast (by simp only [four]; ac_rfl))
    have hx2 : four (⟨0, 0, 0, 0⟩ : PopS) ⟨1, Tg.head 1 p, p, 0⟩ ⟨2, Tg.head 1 p, p, -1⟩ ⟨2, Tg.head 1 p, p, -1⟩ 2 = ⟨2, Tg.head 1 p, p, -1⟩ := rfl
    have hy2 : four (⟨0, 0, q⟩ : PushS) ⟨1, Tg.head 1 p, q⟩ ⟨2, Tg.head 1 p, q⟩ ⟨2, Tg.head 1 p, q⟩ 2 = ⟨2, Tg.head 1 p, q⟩ := rfl
    have hs2 : four s1 s3 s5 s5 2 = s5 := rfl
    have HX2 := hide hx2
    have HY2 := hide hy2
    have HS2 := hide hs2
    clear hx2 hy2 hs2
    generalize (four (⟨0, 0, 0, 0⟩ : PopS) ⟨1, Tg.head 1 p, p, 0⟩ ⟨2, Tg.head 1 p, p, -1⟩ ⟨2, Tg.head 1 p, p, -1⟩) = FX at *
    generalize (four (⟨0, 0, q⟩ : PushS) ⟨1, Tg.head 1 p, q⟩ ⟨2, Tg.head 1 p, q⟩ ⟨2, Tg.head 1 p, q⟩) = FY at *
    generalize four s1 s3 s5 s5 = FS at *
    have HXY := hide XY
    have N5 := hide n5
    have N6 := hide n6
    have N7 := hide n7
    have Q5 := hide q5
    have Q6 := hide q6
    have Q7 := hide q7
    have HF8 := hide F8
    clear XY n1 n2 n3 n4 n5 n6 n7 q1 q2 q3 q4 q5 q6 q7 F8 O6 F1
    go_wp2
    go_loopw [13] (fun v wr => ∃ k : Nat, v = .int .i64 (k : Int) ∧ k ≤ 2 ∧ Hid (Own (Sep (BO mx (popM 40 1 8 (FX k))) (Sep (BO my (pushM 40 1 8 (FY k))) (Sep (AX qa 40 1 pa ra (FS k) 40 [] 1 rl) (Sep (BO bl lay40) Nought)))) w wr)) (fun v _ => 2 - (intOf v).toNat)
    case atStart => exact ⟨0, rfl, by omega, I0.out⟩
    case round =>
      obtain ⟨k, rfl, hk, hH⟩ := hrel
      by_cases hlt : k < 2
      · have HT := HXY.out k hlt wr hH.out
        clear I0 HXY hH
        go_wp2_with fail
        refine HT.out.mono ?_
        rintro e w7 ⟨⟨v, rfl⟩, H7⟩
        clear HT
        go_wp2_with fail
        refine H7.out.mono ?_
        rintro e w8 ⟨⟨v, rfl⟩, h8⟩
        have H8 := hide h8
        clear h8 H7
        go_wp2
        go_roundw
        case rel => exact ⟨k + 1, by go_num, by omega, H8.out⟩
        case measure => simp [intOf]; omega
      · have hk2 : k = 2 := by omega
        subst hk2
        have O7 : Hid (Own (Sep (BO mx (popM 40 1 8 ⟨2, Tg.head 1 p, p, -1⟩)) (Sep (BO my (pushM 40 1 8 ⟨2, Tg.head 1 p, q⟩)) (Sep (AX qa 40 1 pa ra s5 40 [] 1 rl) (Sep (BO bl lay40) Nought)))) w wr) := hide (by have := hH.out; rw [HX2.out, HY2.out, HS2.out] at this; exact this)
        clear I0 HXY hH HX2 HY2 HS2
        have l0 : wr.cell? ⟨bl, 0, none⟩ = some (.int .i64 40) := cell_of_heap (O7.out.has (m := bl) (o := lay40) (R := Sep (BO mx (popM 40 1 8 ⟨2, Tg.head 1 p, p, -1⟩)) (Sep (BO my (pushM 40 1 8 ⟨2, Tg.head 1 p, q⟩)) (Sep (AX qa 40 1 pa ra s5 40 [] 1 rl) Nought))) (by ac_rfl))
        have l1 : wr.cell? ⟨bl, 1, none⟩ = some (.int .i64 1) := cell_of_heap (O7.out.has (m := bl) (o := lay40) (R := Sep (BO mx (popM 40 1 8 ⟨2, Tg.head 1 p, p, -1⟩)) (Sep (BO my (pushM 40 1 8 ⟨2, Tg.head 1 p, q⟩)) (Sep (AX qa 40 1 pa ra s5 40 [] 1 rl) Nought))) (by ac_rfl))
        go_wp2_with fail
        refine (NPOP.out _).mono ?_
        rintro e w8 ⟨mz, rfl, h1, h2, h3⟩
        have O8 := hide (Own.boNew (o := popM 40 1 8 ⟨0, 0, 0, 0⟩) (Loc.bo.sep (Loc.bo.sep (Loc.ax.sep lB))) O7.out h1 h2 h3)
        clear h1 h2 h3 O7 l0 l1 NPOP
        have lR3 : Loc (Sep (BO mx (popM 40 1 8 ⟨2, Tg.head 1 p, p, -1⟩)) (Sep (BO my (pushM 40 1 8 ⟨2, Tg.head 1 p, q⟩)) (Sep (BO bl lay40) Nought))) := Loc.bo.sep (Loc.bo.sep lB)
        have ZZ : ∀ k, k < 3 → ∀ (u : World), Own (Sep (BO mz (popM 40 1 8 (four ⟨0, 0, 0, 0⟩ ⟨1, Tg.head 1 p, p, 0⟩ ⟨2, Tg.head 1 p, p, -1⟩ ⟨3, Tg.head 1 p, p, -1⟩ k))) (Sep (AX qa 40 1 pa ra (four s5 s6 s7 s8 k) 40 [] 1 rl) (Sep (BO mx (popM 40 1 8 ⟨2, Tg.head 1 p, p, -1⟩)) (Sep (BO my (pushM 40 1 8 ⟨2, Tg.head 1 p, q⟩)) (Sep (BO bl lay40) Nought))))) w u →
            Hid (Calls Try.prog 13 #[.pointer (some ⟨mz, 0, none⟩), .pointer (some ⟨qa, 0, none⟩)] u fun e u' => (∃ v, e = .returned v) ∧ Own (Sep (BO mz (popM 40 1 8 (four ⟨0, 0, 0, 0⟩ ⟨1, Tg.head 1 p, p, 0⟩ ⟨2, Tg.head 1 p, p, -1⟩ ⟨3, Tg.head 1 p, p, -1⟩ (k + 1)))) (Sep (AX qa 40 1 pa ra (four s5 s6 s7 s8 (k + 1)) 40 [] 1 rl) (Sep (BO mx (popM 40 1 8 ⟨2, Tg.head 1 p, p, -1⟩)) (Sep (BO my (pushM 40 1 8 ⟨2, Tg.head 1 p, q⟩)) (Sep (BO bl lay40) Nought))))) w u') := by
          have hb := Tg.head_lt 1 (p : Int) (by omega) (by omega) (by omega)
          have n5 := N5.out
          have n6 := N6.out
          have n7 := N7.out
          intro k hk u ho
          match k, hk with
          | 0, _ => exact hide ((popE lR3 ho Q5.out rfl (by show 8 < s5.words.length; omega) (by show (0 : Nat) < _; decide) (.inl rfl) (fun h => absurd h (by show ¬ ((0 : Int) = 1); decide)) (by rw [HWW.out]; exact n5)).mono fun e u' ⟨h1, h2⟩ => ⟨⟨_, h1⟩, h2⟩)
          | 1, _ => exact hide ((popE lR3 ho Q6.out rfl (by show 8 < s6.words.length; omega) hb (.inr (.inl rfl)) (fun _ => HOKP.out) (by rw [HWW.out]; exact n6)).mono fun e u' ⟨h1, h2⟩ => ⟨⟨_, h1⟩, h2⟩)
          | 2, _ => exact hide ((popE lR3 ho Q7.out rfl (by show 8 < s7.words.length; omega) hb (.inr (.inr rfl)) (fun h => absurd h (by show ¬ ((2 : Int) = 1); decide)) (by rw [HWW.out]; exact n7)).mono fun e u' ⟨h1, h2⟩ => ⟨⟨_, h1⟩, h2⟩)
        have I1 : Hid (Own (Sep (BO mz (popM 40 1 8 (four ⟨0, 0, 0, 0⟩ ⟨1, Tg.head 1 p, p, 0⟩ ⟨2, Tg.head 1 p, p, -1⟩ ⟨3, Tg.head 1 p, p, -1⟩ 0))) (Sep (AX qa 40 1 pa ra (four s5 s6 s7 s8 0) 40 [] 1 rl) (Sep (BO mx (popM 40 1 8 ⟨2, Tg.head 1 p, p, -1⟩)) (Sep (BO my (pushM 40 1 8 ⟨2, Tg.head 1 p, q⟩)) (Sep (BO bl lay40) Nought))))) w w8) := hide (O8.out.cast (by simp only [four]; ac_rfl))
        have hz3 : four (⟨0, 0, 0, 0⟩ : PopS) ⟨1, Tg.head 1 p, p, 0⟩ ⟨2, Tg.head 1 p, p, -1⟩ ⟨3, Tg.head 1 p, p, -1⟩ 3 = ⟨3, Tg.head 1 p, p, -1⟩ := rfl
        have ht3 : four s5 s6 s7 s8 3 = s8 := rfl
        have HZ3 := hide hz3
        have HT3 := hide ht3
        clear hz3 ht3
        generalize (four (⟨0, 0, 0, 0⟩ : PopS) ⟨1, Tg.head 1 p, p, 0⟩ ⟨2, Tg.head 1 p, p, -1⟩ ⟨3, Tg.head 1 p, p, -1⟩) = FZ at *
        generalize four s5 s6 s7 s8 = FT at *
        have HZZ := hide ZZ
        clear ZZ O8 N5 N6 N7 Q5 Q6 Q7
        go_wp2
        go_loopw [15] (fun v wr => ∃ k : Nat, v = .int .i64 (k : Int) ∧ k ≤ 3 ∧ Hid (Own (Sep (BO mz (popM 40 1 8 (FZ k))) (Sep (AX qa 40 1 pa ra (FT k) 40 [] 1 rl) (Sep (BO mx (popM 40 1 8 ⟨2, Tg.head 1 p, p, -1⟩)) (Sep (BO my (pushM 40 1 8 ⟨2, Tg.head 1 p, q⟩)) (Sep (BO bl lay40) Nought))))) w wr)) (fun v _ => 3 - (intOf v).toNat)
        case atStart => exact ⟨0, rfl, by omega, I1.out⟩
        case round =>
          obtain ⟨k, rfl, hk, hH⟩ := hrel
          by_cases hlt : k < 3
          · have HT := HZZ.out k hlt _ hH.out
            clear I1 HZZ hH
            go_wp2_with fail
            refine HT.out.mono ?_
            rintro e w9 ⟨⟨v, rfl⟩, h9⟩
            have H9 := hide h9
            clear h9 HT
            go_wp2
            go_roundw
            case rel => exact ⟨k + 1, by go_num, by omega, H9.out⟩
            case measure => simp [intOf]; omega
          · have hk3 : k = 3 := by omega
            subst hk3
            have o9 := hH.out
            rw [HZ3.out, HT3.out] at o9
            have O9 := hide o9
            have HPG := hide (popPage _ _ _ _ _ _ _ _ (Own.boAt o9))
            clear I1 HZZ hH HZ3 HT3 o9
            have lR4 : Loc (Sep (BO mz (popM 40 1 8 ⟨3, Tg.head 1 p, p, -1⟩)) (Sep (BO mx (popM 40 1 8 ⟨2, Tg.head 1 p, p, -1⟩)) (Sep (BO my (pushM 40 1 8 ⟨2, Tg.head 1 p, q⟩)) (Sep (BO bl lay40) Nought)))) := Loc.bo.sep lR3
            go_wp2_with fail
            refine HPG.out.mono ?_
            rintro e w10 ⟨rfl, rfl⟩
            have O10 := hide (O9.out.cast (R' := Sep (AX qa 40 1 pa ra s8 40 [] 1 rl) (Sep (BO mz (popM 40 1 8 ⟨3, Tg.head 1 p, p, -1⟩)) (Sep (BO mx (popM 40 1 8 ⟨2, Tg.head 1 p, p, -1⟩)) (Sep (BO my (pushM 40 1 8 ⟨2, Tg.head 1 p, q⟩)) (Sep (BO bl lay40) Nought))))) (by ac_rfl))
            have l0 : w10.cell? ⟨bl, 0, none⟩ = some (.int .i64 40) := cell_of_heap (O10.out.has (m := bl) (o := lay40) (R := Sep (AX qa 40 1 pa ra s8 40 [] 1 rl) (Sep (BO mz (popM 40 1 8 ⟨3, Tg.head 1 p, p, -1⟩)) (Sep (BO mx (popM 40 1 8 ⟨2, Tg.head 1 p, p, -1⟩)) (Sep (BO my (pushM 40 1 8 ⟨2, Tg.head 1 p, q⟩)) Nought)))) (by ac_rfl))
            have l1 : w10.cell? ⟨bl, 1, none⟩ = some (.int .i64 1) := cell_of_heap (O10.out.has (m := bl) (o := lay40) (R := Sep (AX qa 40 1 pa ra s8 40 [] 1 rl) (Sep (BO mz (popM 40 1 8 ⟨3, Tg.head 1 p, p, -1⟩)) (Sep (BO mx (popM 40 1 8 ⟨2, Tg.head 1 p, p, -1⟩)) (Sep (BO my (pushM 40 1 8 ⟨2, Tg.head 1 p, q⟩)) Nought)))) (by ac_rfl))
            clear O9 HPG
            go_wp2_with fail
            refine (lawPush lR4 O10.out (p : Int) HOKP.out (by rw [HF8.out.1, HWW.out])).mono ?_
            rintro e w11 ⟨rfl, s9, e9, o11⟩
            have F9 : Hid (Fx p q s9.words (Tg.head 3 p) 0 (p + 1)) := hide (by rw [e9]; exact HF8.out.alone hp4 hn (by omega))
            clear l0 l1 HF8 e9 O10
            have hb1 : Tg.head 1 (p : Int) < 18446744073709551616 := Tg.head_lt 1 (p : Int) (by omega) (by omega) (by omega)
            have hb3 : Tg.head 3 (p : Int) < 18446744073709551616 := Tg.head_lt 3 (p : Int) (by omega) (by omega) (by omega)
            have HAW := hide (fun u => awake12 u)
            cases pop with
            | true =>
              obtain ⟨s10, s11, s12, s13, b1, b2, b3, b4, ⟨n9, n10, n11, n12, n13⟩, blst⟩ := lostB p q hp4 s9 F9.out
              have B1 := hide b1
              have B2 := hide b2
              have B3 := hide b3
              have B4 := hide b4
              have BL9 := hide n9
              have BL10 := hide n10
              have BL11 := hide n11
              have BL12 := hide n12
              have BL13 := hide n13
              have BLS := hide blst
              have lZ : Loc (Sep (BO mz (popM 40 1 8 ⟨3, Tg.head 1 p, p, -1⟩)) (Sep (BO my (pushM 40 1 8 ⟨2, Tg.head 1 p, q⟩)) (Sep (BO bl lay40) Nought))) := Loc.bo.sep (Loc.bo.sep lB)
              have HB1' := hide hb1
              have HB3' := hide hb3
              have O11 := hide (o11.cast (R' := Sep (BO mx (popM 40 1 8 ⟨2, Tg.head 1 p, p, -1⟩)) (Sep (AX qa 40 1 pa ra s9 40 [] 1 rl) (Sep (BO mz (popM 40 1 8 ⟨3, Tg.head 1 p, p, -1⟩)) (Sep (BO my (pushM 40 1 8 ⟨2, Tg.head 1 p, q⟩)) (Sep (BO bl lay40) Nought))))) (by ac_rfl))
              clear o11 b1 b2 b3 b4 n9 n10 n11 n12 n13 blst hb1 hb3 F9
              go_wp2_with fail
              refine (popE lZ O11.out B1.out.1 B1.out.2 (by rw [BL9.out]; omega) HB1'.out (.inr (.inr rfl)) (fun h => absurd h (by show ¬ ((2 : Int) = 1); decide)) (by rw [HWW.out]; exact BL9.out)).mono ?_
              rintro e w12 ⟨rfl, o12⟩
              have O12 := hide o12
              clear o12 O11
              unfold didK
              go_wp2_with fail
              refine (popDone _ _ _ _ _ _ _ _ _ (Own.boAt O12.out) false rfl).mono ?_
              rintro e w12' ⟨rfl, rfl⟩
              go_wp2_with fail
              refine (popE lZ O12.out B2.out.1 B2.out.2 (by rw [BL10.out]; omega) HB1'.out (.inl rfl) (fun h => absurd h (by show ¬ ((0 : Int) = 1); decide)) (by rw [HWW.out]; exact BL10.out)).mono ?_
              rintro e w13 ⟨rfl, o13⟩
              have O13 := hide o13
              clear o13 O12
              unfold didK
              go_wp2_with fail
              refine (popE lZ O13.out B3.out.1 B3.out.2 (by rw [BL11.out]; omega) HB3'.out (.inr (.inl rfl)) (fun _ => HOKP.out) (by rw [HWW.out]; exact BL11.out)).mono ?_
              rintro e w14 ⟨rfl, o14⟩
              have O14 := hide o14
              clear o14 O13
              unfold didK
              go_wp2_with fail
              refine (popE lZ O14.out B4.out.1 B4.out.2 (by rw [BL12.out]; omega) HB3'.out (.inr (.inr rfl)) (fun h => absurd h (by show ¬ ((2 : Int) = 1); decide)) (by rw [HWW.out]; exact BL12.out)).mono ?_
              rintro e w15 ⟨rfl, o15⟩
              have O15 := hide o15
              clear o15 O14
              unfold didK
              go_wp2_with fail
              refine (popDone _ _ _ _ _ _ _ _ _ (Own.boAt O15.out) true rfl).mono ?_
              rintro e w16 ⟨rfl, rfl⟩
              go_wp2_with fail
              refine (popPage _ _ _ _ _ _ _ _ (Own.boAt O15.out)).mono ?_
              rintro e w17 ⟨rfl, rfl⟩
              go_wp2_with fail
              refine (stackList (O15.out.cast BO.swap) 8 (by decide) (by rw [BL13.out, HWW.out]) 40 rfl [] BLS.out).mono ?_
              rintro e w18 ⟨v, rfl, ⟨va, vc, rfl, _⟩, b18⟩
              have HB18 := hide (O15.out.back.trans (b18.mono O15.out.back.size))
              clear b18 O15
              go_wp2_with fail
              refine (HAW.out _).mono ?_
              rintro e w19 ⟨rfl, b19⟩
              have HB19 := hide (HB18.out.trans (b19.mono HB18.out.size))
              clear b19 HB18
              go_wp2
              go_ret
              exact ⟨rfl, HB19.out⟩
            | false =>
              obtain ⟨s10, s11, s12, s13, b1, b2, b3, b4, ⟨n9, n10, n11, n12, n13⟩, blst⟩ := lostC p q hp4 hq4 hn s9 F9.out
              have B1 := hide b1
              have B2 := hide b2
              have B3 := hide b3
              have B4 := hide b4
              have BL9 := hide n9
              have BL10 := hide n10
              have BL11 := hide n11
              have BL12 := hide n12
              have BL13 := hide n13
              have BLS := hide blst
              have lZ : Loc (Sep (BO mz (popM 40 1 8 ⟨3, Tg.head 1 p, p, -1⟩)) (Sep (BO mx (popM 40 1 8 ⟨2, Tg.head 1 p, p, -1⟩)) (Sep (BO bl lay40) Nought))) := Loc.bo.sep (Loc.bo.sep lB)
              have HB1' := hide hb1
              have HB3' := hide hb3
              have O11 := hide (o11.cast (R' := Sep (BO my (pushM 40 1 8 ⟨2, Tg.head 1 p, q⟩)) (Sep (AX qa 40 1 pa ra s9 40 [] 1 rl) (Sep (BO mz (popM 40 1 8 ⟨3, Tg.head 1 p, p, -1⟩)) (Sep (BO mx (popM 40 1 8 ⟨2, Tg.head 1 p, p, -1⟩)) (Sep (BO bl lay40) Nought))))) (by ac_rfl))
              clear o11 b1 b2 b3 b4 n9 n10 n11 n12 n13 blst hb1 hb3 F9
              go_wp2_with fail
              refine (pushE lZ O11.out B1.out.1 B1.out.2 (by rw [BL9.out]; omega) HB1'.out (.inr (.inr rfl)) HOKQ.out (by rw [HWW.out]; exact BL9.out)).mono ?_
              rintro e w12 ⟨rfl, o12⟩
              have O12 := hide o12
              clear o12 O11
              unfold didK
              go_wp2_with fail
              refine (pushDone _ _ _ _ _ _ _ _ (Own.boAt O12.out) false rfl).mono ?_
              rintro e w12' ⟨rfl, rfl⟩
              go_wp2_with fail
              refine (pushE lZ O12.out B2.out.1 B2.out.2 (by rw [BL10.out]; omega) HB1'.out (.inl rfl) HOKQ.out (by rw [HWW.out]; exact BL10.out)).mono ?_
              rintro e w13 ⟨rfl, o13⟩
              have O13 := hide o13
              clear o13 O12
              unfold didK
              go_wp2_with fail
              refine (pushE lZ O13.out B3.out.1 B3.out.2 (by rw [BL11.out]; omega) HB3'.out (.inr (.inl rfl)) HOKQ.out (by rw [HWW.out]; exact BL11.out)).mono ?_
              rintro e w14 ⟨rfl, o14⟩
              have O14 := hide o14
              clear o14 O13
              unfold didK
              go_wp2_with fail
              refine (pushE lZ O14.out B4.out.1 B4.out.2 (by rw [BL12.out]; omega) HB3'.out (.inr (.inr rfl)) HOKQ.out (by rw [HWW.out]; exact BL12.out)).mono ?_
              rintro e w15 ⟨rfl, o15⟩
              have O15 := hide o15
              clear o15 O14
              unfold didK
              go_wp2_with fail
              refine (pushDone _ _ _ _ _ _ _ _ (Own.boAt O15.out) true rfl).mono ?_
              rintro e w16 ⟨rfl, rfl⟩
              go_wp2_with fail
              refine (stackList (O15.out.cast BO.swap) 8 (by decide) (by rw [BL13.out, HWW.out]) 40 rfl [(q : Int), (p : Int)] BLS.out).mono ?_
              rintro e w18 ⟨v, rfl, hv, b18⟩
              have HV := hide hv
              have HB18 := hide (O15.out.back.trans (b18.mono O15.out.back.size))
              clear b18 O15 hv
              go_wp2_with fail
              have hA := grown1 w18 (.cells #[.int .i64 (q : Int), .int .i64 (p : Int)] 3)
              have hc := heap_alloc_at w18 (.cells #[.int .i64 (q : Int), .int .i64 (p : Int)] 3)
              have hW2 : IntsV (w18.alloc (.cells #[.int .i64 (q : Int), .int .i64 (p : Int)] 3)) (.slice (some ⟨w18.heap.size, 0, none⟩) 2 2) [(q : Int), (p : Int)] := by
                refine ⟨_, _, rfl, fun _ => ⟨w18.heap.size, rfl, lt_of_heap hc, fun i hi => ?_⟩⟩
                match i, hi with
                | 0, _ => exact cell_of_heap hc
                | 1, _ => exact cell_of_heap hc
              refine (sameInts _ v _ [(q : Int), (p : Int)] (HV.out.below hA) hW2 (by simp)).mono ?_
              rintro e w19 ⟨rfl, h19⟩
              have HB19 := hide ((HB18.out.trans (hA.mono HB18.out.size)).trans (h19.below _))
              clear h19 hW2 hc hA HB18 HV
              go_wp2_with fail
              refine (HAW.out _).mono ?_
              rintro e w20 ⟨rfl, b20⟩
              have HB20 := hide (HB19.out.trans (b20.mono HB19.out.size))
              clear b20 HB19
              go_wp2
              go_ret
              exact ⟨rfl, HB20.out⟩
  · have dpr : ((p : Int) == (r' : Int)) = false := by rw [beq_eq_false_iff_ne]; omega
    have dpN : (p == r') = false := by rw [beq_eq_false_iff_ne]; exact hpr
    have hrq := (HQN.out hpr).symm
    subst hrq
    clear hpr HQI
    go_wp2_with fail
    refine (lawPush lB O2.out (p : Int) HOKP.out (by rw [HL0.out, HWW.out])).mono ?_
    rintro e w3 ⟨rfl, s1, e1, o3⟩
    have F1 : Hid (Fx p q s1.words (Tg.head 1 p) 0 c0) := hide (by rw [e1]; exact HF1.out)
    have O3 := hide o3
    clear e1 o3 O2 l0 l1 HF1 HL0
    go_wp2
    have O4 := hide (O3.out.below (Loc.ax.sep lB) ((Alike.drewN w3 1).below _))
    have J4 : Hid (BkAt bl lay40 w3.drew) := hide (O4.out.has (R := Sep (AX qa 40 1 pa ra s1 40 [] 1 rl) Nought) (by ac_rfl))
    have hne : Nonempty (Mem (BkAt bl lay40)) := ⟨⟨_, J4.out⟩⟩
    have U0 : ∀ u : Mem (BkAt bl lay40), u.w'.cell? ⟨bl, 0, none⟩ = some (.int .i64 40) := fun u => cell_of_heap u.h
    have U1 : ∀ u : Mem (BkAt bl lay40), u.w'.cell? ⟨bl, 1, none⟩ = some (.int .i64 1) := fun u => cell_of_heap u.h
    refine region_start (J := BkAt bl lay40) (by kernel_rfl) ?_
    refine stretch (fuel := 4) (by kernel_rfl) (fun _ _ _ _ _ h => h) J4.out [0, 2, 3] (by kernel_rfl) ?_
    simp only [List.filterMap_cons, List.filterMap_nil, List.getElem?_toArray, List.getElem?_cons_zero, List.getElem?_cons_succ]
    show wpQuiet _ _ _ _ [_, _, _] _
    repeat (go_big_quiet_step (fail))
    refine wpQuiet_nil ?_
    refine wpAnyJ_writer (i := 1) rfl (by kernel_rfl) (fun K' hK => ?_)
    go_simp
    refine (NPOP.out _).mono ?_
    rintro e w5 ⟨mx, rfl, h1, h2, h3⟩
    have O5 := hide (Own.boNew (o := popM 40 1 8 ⟨0, 0, 0, 0⟩) (Loc.ax.sep lB) O4.out h1 h2 h3)
    have J5 : Hid (BkAt bl lay40 w5) := hide (O5.out.has (R := Sep (BO mx (popM 40 1 8 ⟨0, 0, 0, 0⟩)) (Sep (AX qa 40 1 pa ra s1 40 [] 1 rl) Nought)) (by ac_rfl))
    refine hK _ _ J5.out ?_
    clear hK K' h1 h2 h3 O3 O4 J4
    refine wpAnyJ_writer (i := 4) rfl (by kernel_rfl) (fun K' hK => ?_)
    go_simp
    refine (NPUSH.out _).mono ?_
    rintro e w6 ⟨my, rfl, h1, h2, h3⟩
    have O6 := hide (Own.boNew (o := pushM 40 1 8 ⟨0, 0, q⟩) (Loc.bo.sep (Loc.ax.sep lB)) O5.out h1 h2 h3)
    have J6 : Hid (BkAt bl lay40 w6) := hide (O6.out.has (R := Sep (BO my (pushM 40 1 8 ⟨0, 0, q⟩)) (Sep (BO mx (popM 40 1 8 ⟨0, 0, 0, 0⟩)) (Sep (AX qa 40 1 pa ra s1 40 [] 1 rl) Nought))) (by ac_rfl))
    refine hK _ _ J6.out ?_
    clear hK K' h1 h2 h3 O5 J5
    refine stretch (fuel := 0) (by kernel_rfl) (fun _ _ _ _ _ h => h) J6.out [5, 6] (by kernel_rfl) ?_
    simp only [List.filterMap_cons, List.filterMap_nil, List.getElem?_toArray, List.getElem?_cons_zero, List.getElem?_cons_succ]
    show wpQuiet _ _ _ _ [_, _] _
    repeat (go_big_quiet_step (fail))
    refine wpQuiet_nil ?_
    refine wpAnyJ_done (by kernel_rfl) ?_
    clear U0 U1 hne J6 NPUSH
    obtain ⟨s2, s3, s4, s5, s6, s7, s8, q1, q2, q3, q4, q5, q6, q7, lens, F8⟩ := lostA p q hp4 hq4 hn c0 s1 F1.out
    obtain ⟨n1, n2, n3, n4, n5, n6, n7⟩ := lens
    have XY : ∀ k, k < 2 → ∀ (u : World), Own (Sep (BO mx (popM 40 1 8 (four ⟨0, 0, 0, 0⟩ ⟨1, Tg.head 1 p, p, 0⟩ ⟨2, Tg.head 1 p, p, -1⟩ ⟨2, Tg.head 1 p, p, -1⟩ k))) (Sep (BO my (pushM 40 1 8 (four ⟨0, 0, q⟩ ⟨1, Tg.head 1 p, q⟩ ⟨2, Tg.head 1 p, q⟩ ⟨2, Tg.head 1 p, q⟩ k))) (Sep (AX qa 40 1 pa ra (four s1 s3 s5 s5 k) 40 [] 1 rl) (Sep (BO bl lay40) Nought)))) w u →
        Hid (Calls Try.prog 13 #[.pointer (some ⟨mx, 0, none⟩), .pointer (some ⟨qa, 0, none⟩)] u fun e u' => (∃ v, e = .returned v) ∧ Hid (Calls Try.prog 11 #[.pointer (some ⟨my, 0, none⟩), .pointer (some ⟨qa, 0, none⟩)] u' fun e u'' => (∃ v, e = .returned v) ∧
          Own (Sep (BO mx (popM 40 1 8 (four ⟨0, 0, 0, 0⟩ ⟨1, Tg.head 1 p, p, 0⟩ ⟨2, Tg.head 1 p, p, -1⟩ ⟨2, Tg.head 1 p, p, -1⟩ (k + 1)))) (Sep (BO my (pushM 40 1 8 (four ⟨0, 0, q⟩ ⟨1, Tg.head 1 p, q⟩ ⟨2, Tg.head 1 p, q⟩ ⟨2, Tg.head 1 p, q⟩ (k + 1)))) (Sep (AX qa 40 1 pa ra (four s1 s3 s5 s5 (k + 1)) 40 [] 1 rl) (Sep (BO bl lay40) Nought)))) w u'')) := by
      have hb := Tg.head_lt 1 (p : Int) (by omega) (by omega) (by omega)
      intro k hk u ho
      match k, hk with
      | 0, _ =>
        refine hide ((popE (Loc.bo.sep lB) (ho.cast (R' := Sep (BO mx (popM 40 1 8 ⟨0, 0, 0, 0⟩)) (Sep (AX qa 40 1 pa ra s1 40 [] 1 rl) (Sep (BO my (pushM 40 1 8 ⟨0, 0, q⟩)) (Sep (BO bl lay40) Nought)))) (by rw [show (four s1 s3 s5 s5 0) = s1 from rfl]; simp only [four]; ac_rfl)) q1 rfl (by omega) (by simp) (.inl rfl) (fun h => absurd h (by simp)) (by rw [n1, HWW.out])).mono fun e u' ⟨h1, h2⟩ => ⟨⟨_, h1⟩, hide ?_⟩)
        refine (pushE (Loc.bo.sep lB) (h2.cast (R' := Sep (BO my (pushM 40 1 8 ⟨0, 0, q⟩)) (Sep (AX qa 40 1 pa ra s2 40 [] 1 rl) (Sep (BO mx (popM 40 1 8 ⟨1, Tg.head 1 p, p, 0⟩)) (Sep (BO bl lay40) Nought)))) (by ac_rfl)) q2 rfl (by omega) (by simp) (.inl rfl) HOKQ.out (by rw [n2, HWW.out])).mono fun e u'' ⟨g1, g2⟩ => ⟨⟨_, g1⟩, g2.cast ?_⟩
        show _ = Sep (BO mx (popM 40 1 8 ⟨1, Tg.head 1 p, p, 0⟩)) (Sep (BO my (pushM 40 1 8 ⟨1, Tg.head 1 p, q⟩)) (Sep (AX qa 40 1 pa ra s3 40 [] 1 rl) (Sep (BO bl lay40) Nought)))
        ac_rfl
      | 1, _ =>
        refine hide ((popE (Loc.bo.sep lB) (ho.cast (R' := Sep (BO mx (popM 40 1 8 ⟨1, Tg.head 1 p, p, 0⟩)) (Sep (AX qa 40 1 pa ra s3 40 [] 1 rl) (Sep (BO my (pushM 40 1 8 ⟨1, Tg.head 1 p, q⟩)) (Sep (BO bl lay40) Nought)))) (by simp only [four]; ac_rfl)) q3 rfl (by omega) hb (.inr (.inl rfl)) (fun _ => HOKP.out) (by rw [n3, HWW.out])).mono fun e u' ⟨h1, h2⟩ => ⟨⟨_, h1⟩, hide ?_⟩)
        refine (pushE (Loc.bo.sep lB) (h2.cast (R' := Sep (BO my (pushM 40 1 8 ⟨1, Tg.head 1 p, q⟩)) (Sep (AX qa 40 1 pa ra s4 40 [] 1 rl) (Sep (BO mx (popM 40 1 8 ⟨2, Tg.head 1 p, p, -1⟩)) (Sep (BO bl lay40) Nought)))) (by ac_rfl)) q4 rfl (by omega) hb (.inr (.inl rfl)) HOKQ.out (by rw [n4, HWW.out])).mono fun e u'' ⟨g1, g2⟩ => ⟨⟨_, g1⟩, g2.cast ?_⟩
        show _ = Sep (BO mx (popM 40 1 8 ⟨2, Tg.head 1 p, p, -1⟩)) (Sep (BO my (pushM 40 1 8 ⟨2, Tg.head 1 p, q⟩)) (Sep (AX qa 40 1 pa ra s5 40 [] 1 rl) (Sep (BO bl lay40) Nought)))
        ac_rfl
    have I0 : Hid (Own (Sep (BO mx (popM 40 1 8 (four ⟨0, 0, 0, 0⟩ ⟨1, Tg.head 1 p, p, 0⟩ ⟨2, Tg.head 1 p, p, -1⟩ ⟨2, Tg.head 1 p, p, -1⟩ 0))) (Sep (BO my (pushM 40 1 8 (four ⟨0, 0, q⟩ ⟨1, Tg.head 1 p, q⟩ ⟨2, Tg.head 1 p, q⟩ ⟨2, Tg.head 1 p, q⟩ 0))) (Sep (AX qa 40 1 pa ra (four s1 s3 s5 s5 0) 40 [] 1 rl) (Sep (BO bl lay40) Nought)))) w w6) := hide (O6.out.cast (by simp only [four]; ac_rfl))
    have hx2 : four (⟨0, 0, 0, 0⟩ : PopS) ⟨1, Tg.head 1 p, p, 0⟩ ⟨2, Tg.head 1 p, p, -1⟩ ⟨2, Tg.head 1 p, p, -1⟩ 2 = ⟨2, Tg.head 1 p, p, -1⟩ := rfl
    have hy2 : four (⟨0, 0, q⟩ : PushS) ⟨1, Tg.head 1 p, q⟩ ⟨2, Tg.head 1 p, q⟩ ⟨2, Tg.head 1 p, q⟩ 2 = ⟨2, Tg.head 1 p, q⟩ := rfl
    have hs2 : four s1 s3 s5 s5 2 = s5 := rfl
    have HX2 := hide hx2
    have HY2 := hide hy2
    have HS2 := hide hs2
    clear hx2 hy2 hs2
    generalize (four (⟨0, 0, 0, 0⟩ : PopS) ⟨1, Tg.head 1 p, p, 0⟩ ⟨2, Tg.head 1 p, p, -1⟩ ⟨2, Tg.head 1 p, p, -1⟩) = FX at *
    generalize (four (⟨0, 0, q⟩ : PushS) ⟨1, Tg.head 1 p, q⟩ ⟨2, Tg.head 1 p, q⟩ ⟨2, Tg.head 1 p, q⟩) = FY at *
    generalize four s1 s3 s5 s5 = FS at *
    have HXY := hide XY
    have N5 := hide n5
    have N6 := hide n6
    have N7 := hide n7
    have Q5 := hide q5
    have Q6 := hide q6
    have Q7 := hide q7
    have HF8 := hide F8
    clear XY n1 n2 n3 n4 n5 n6 n7 q1 q2 q3 q4 q5 q6 q7 F8 O6 F1
    go_wp2
    go_loopw [13] (fun v wr => ∃ k : Nat, v = .int .i64 (k : Int) ∧ k ≤ 2 ∧ Hid (Own (Sep (BO mx (popM 40 1 8 (FX k))) (Sep (BO my (pushM 40 1 8 (FY k))) (Sep (AX qa 40 1 pa ra (FS k) 40 [] 1 rl) (Sep (BO bl lay40) Nought)))) w wr)) (fun v _ => 2 - (intOf v).toNat)
    case atStart => exact ⟨0, rfl, by omega, I0.out⟩
    case round =>
      obtain ⟨k, rfl, hk, hH⟩ := hrel
      by_cases hlt : k < 2
      · have HT := HXY.out k hlt wr hH.out
        clear I0 HXY hH
        go_wp2_with fail
        refine HT.out.mono ?_
        rintro e w7 ⟨⟨v, rfl⟩, H7⟩
        clear HT
        go_wp2_with fail
        refine H7.out.mono ?_
        rintro e w8 ⟨⟨v, rfl⟩, h8⟩
        have H8 := hide h8
        clear h8 H7
        go_wp2
        go_roundw
        case rel => exact ⟨k + 1, by go_num, by omega, H8.out⟩
        case measure => simp [intOf]; omega
      · have hk2 : k = 2 := by omega
        subst hk2
        have O7 : Hid (Own (Sep (BO mx (popM 40 1 8 ⟨2, Tg.head 1 p, p, -1⟩)) (Sep (BO my (pushM 40 1 8 ⟨2, Tg.head 1 p, q⟩)) (Sep (AX qa 40 1 pa ra s5 40 [] 1 rl) (Sep (BO bl lay40) Nought)))) w wr) := hide (by have := hH.out; rw [HX2.out, HY2.out, HS2.out] at this; exact this)
        clear I0 HXY hH HX2 HY2 HS2
        have l0 : wr.cell? ⟨bl, 0, none⟩ = some (.int .i64 40) := cell_of_heap (O7.out.has (m := bl) (o := lay40) (R := Sep (BO mx (popM 40 1 8 ⟨2, Tg.head 1 p, p, -1⟩)) (Sep (BO my (pushM 40 1 8 ⟨2, Tg.head 1 p, q⟩)) (Sep (AX qa 40 1 pa ra s5 40 [] 1 rl) Nought))) (by ac_rfl))
        have l1 : wr.cell? ⟨bl, 1, none⟩ = some (.int .i64 1) := cell_of_heap (O7.out.has (m := bl) (o := lay40) (R := Sep (BO mx (popM 40 1 8 ⟨2, Tg.head 1 p, p, -1⟩)) (Sep (BO my (pushM 40 1 8 ⟨2, Tg.head 1 p, q⟩)) (Sep (AX qa 40 1 pa ra s5 40 [] 1 rl) Nought))) (by ac_rfl))
        go_wp2_with fail
        refine (NPOP.out _).mono ?_
        rintro e w8 ⟨mz, rfl, h1, h2, h3⟩
        have O8 := hide (Own.boNew (o := popM 40 1 8 ⟨0, 0, 0, 0⟩) (Loc.bo.sep (Loc.bo.sep (Loc.ax.sep lB))) O7.out h1 h2 h3)
        clear h1 h2 h3 O7 l0 l1 NPOP
        have lR3 : Loc (Sep (BO mx (popM 40 1 8 ⟨2, Tg.head 1 p, p, -1⟩)) (Sep (BO my (pushM 40 1 8 ⟨2, Tg.head 1 p, q⟩)) (Sep (BO bl lay40) Nought))) := Loc.bo.sep (Loc.bo.sep lB)
        have ZZ : ∀ k, k < 3 → ∀ (u : World), Own (Sep (BO mz (popM 40 1 8 (four ⟨0, 0, 0, 0⟩ ⟨1, Tg.head 1 p, p, 0⟩ ⟨2, Tg.head 1 p, p, -1⟩ ⟨3, Tg.head 1 p, p, -1⟩ k))) (Sep (AX qa 40 1 pa ra (four s5 s6 s7 s8 k) 40 [] 1 rl) (Sep (BO mx (popM 40 1 8 ⟨2, Tg.head 1 p, p, -1⟩)) (Sep (BO my (pushM 40 1 8 ⟨2, Tg.head 1 p, q⟩)) (Sep (BO bl lay40) Nought))))) w u →
            Hid (Calls Try.prog 13 #[.pointer (some ⟨mz, 0, none⟩), .pointer (some ⟨qa, 0, none⟩)] u fun e u' => (∃ v, e = .returned v) ∧ Own (Sep (BO mz (popM 40 1 8 (four ⟨0, 0, 0, 0⟩ ⟨1, Tg.head 1 p, p, 0⟩ ⟨2, Tg.head 1 p, p, -1⟩ ⟨3, Tg.head 1 p, p, -1⟩ (k + 1)))) (Sep (AX qa 40 1 pa ra (four s5 s6 s7 s8 (k + 1)) 40 [] 1 rl) (Sep (BO mx (popM 40 1 8 ⟨2, Tg.head 1 p, p, -1⟩)) (Sep (BO my (pushM 40 1 8 ⟨2, Tg.head 1 p, q⟩)) (Sep (BO bl lay40) Nought))))) w u') := by
          have hb := Tg.head_lt 1 (p : Int) (by omega) (by omega) (by omega)
          have n5 := N5.out
          have n6 := N6.out
          have n7 := N7.out
          intro k hk u ho
          match k, hk with
          | 0, _ => exact hide ((popE lR3 ho Q5.out rfl (by show 8 < s5.words.length; omega) (by show (0 : Nat) < _; decide) (.inl rfl) (fun h => absurd h (by show ¬ ((0 : Int) = 1); decide)) (by rw [HWW.out]; exact n5)).mono fun e u' ⟨h1, h2⟩ => ⟨⟨_, h1⟩, h2⟩)
          | 1, _ => exact hide ((popE lR3 ho Q6.out rfl (by show 8 < s6.words.length; omega) hb (.inr (.inl rfl)) (fun _ => HOKP.out) (by rw [HWW.out]; exact n6)).mono fun e u' ⟨h1, h2⟩ => ⟨⟨_, h1⟩, h2⟩)
          | 2, _ => exact hide ((popE lR3 ho Q7.out rfl (by show 8 < s7.words.length; omega) hb (.inr (.inr rfl)) (fun h => absurd h (by show ¬ ((2 : Int) = 1); decide)) (by rw [HWW.out]; exact n7)).mono fun e u' ⟨h1, h2⟩ => ⟨⟨_, h1⟩, h2⟩)
        have I1 : Hid (Own (Sep (BO mz (popM 40 1 8 (four ⟨0, 0, 0, 0⟩ ⟨1, Tg.head 1 p, p, 0⟩ ⟨2, Tg.head 1 p, p, -1⟩ ⟨3, Tg.head 1 p, p, -1⟩ 0))) (Sep (AX qa 40 1 pa ra (four s5 s6 s7 s8 0) 40 [] 1 rl) (Sep (BO mx (popM 40 1 8 ⟨2, Tg.head 1 p, p, -1⟩)) (Sep (BO my (pushM 40 1 8 ⟨2, Tg.head 1 p, q⟩)) (Sep (BO bl lay40) Nought))))) w w8) := hide (O8.out.cast (by simp only [four]; ac_rfl))
        have hz3 : four (⟨0, 0, 0, 0⟩ : PopS) ⟨1, Tg.head 1 p, p, 0⟩ ⟨2, Tg.head 1 p, p, -1⟩ ⟨3, Tg.head 1 p, p, -1⟩ 3 = ⟨3, Tg.head 1 p, p, -1⟩ := rfl
        have ht3 : four s5 s6 s7 s8 3 = s8 := rfl
        have HZ3 := hide hz3
        have HT3 := hide ht3
        clear hz3 ht3
        generalize (four (⟨0, 0, 0, 0⟩ : PopS) ⟨1, Tg.head 1 p, p, 0⟩ ⟨2, Tg.head 1 p, p, -1⟩ ⟨3, Tg.head 1 p, p, -1⟩) = FZ at *
        generalize four s5 s6 s7 s8 = FT at *
        have HZZ := hide ZZ
        clear ZZ O8 N5 N6 N7 Q5 Q6 Q7
        go_wp2
        go_loopw [15] (fun v wr => ∃ k : Nat, v = .int .i64 (k : Int) ∧ k ≤ 3 ∧ Hid (Own (Sep (BO mz (popM 40 1 8 (FZ k))) (Sep (AX qa 40 1 pa ra (FT k) 40 [] 1 rl) (Sep (BO mx (popM 40 1 8 ⟨2, Tg.head 1 p, p, -1⟩)) (Sep (BO my (pushM 40 1 8 ⟨2, Tg.head 1 p, q⟩)) (Sep (BO bl lay40) Nought))))) w wr)) (fun v _ => 3 - (intOf v).toNat)
        case atStart => exact ⟨0, rfl, by omega, I1.out⟩
        case round =>
          obtain ⟨k, rfl, hk, hH⟩ := hrel
          by_cases hlt : k < 3
          · have HT := HZZ.out k hlt _ hH.out
            clear I1 HZZ hH
            go_wp2_with fail
            refine HT.out.mono ?_
            rintro e w9 ⟨⟨v, rfl⟩, h9⟩
            have H9 := hide h9
            clear h9 HT
            go_wp2
            go_roundw
            case rel => exact ⟨k + 1, by go_num, by omega, H9.out⟩
            case measure => simp [intOf]; omega
          · have hk3 : k = 3 := by omega
            subst hk3
            have o9 := hH.out
            rw [HZ3.out, HT3.out] at o9
            have O9 := hide o9
            have HPG := hide (popPage _ _ _ _ _ _ _ _ (Own.boAt o9))
            clear I1 HZZ hH HZ3 HT3 o9
            have lR4 : Loc (Sep (BO mz (popM 40 1 8 ⟨3, Tg.head 1 p, p, -1⟩)) (Sep (BO mx (popM 40 1 8 ⟨2, Tg.head 1 p, p, -1⟩)) (Sep (BO my (pushM 40 1 8 ⟨2, Tg.head 1 p, q⟩)) (Sep (BO bl lay40) Nought)))) := Loc.bo.sep lR3
            go_wp2_with fail
            refine HPG.out.mono ?_
            rintro e w10 ⟨rfl, rfl⟩
            have O10 := hide (O9.out.cast (R' := Sep (AX qa 40 1 pa ra s8 40 [] 1 rl) (Sep (BO mz (popM 40 1 8 ⟨3, Tg.head 1 p, p, -1⟩)) (Sep (BO mx (popM 40 1 8 ⟨2, Tg.head 1 p, p, -1⟩)) (Sep (BO my (pushM 40 1 8 ⟨2, Tg.head 1 p, q⟩)) (Sep (BO bl lay40) Nought))))) (by ac_rfl))
            have l0 : w10.cell? ⟨bl, 0, none⟩ = some (.int .i64 40) := cell_of_heap (O10.out.has (m := bl) (o := lay40) (R := Sep (AX qa 40 1 pa ra s8 40 [] 1 rl) (Sep (BO mz (popM 40 1 8 ⟨3, Tg.head 1 p, p, -1⟩)) (Sep (BO mx (popM 40 1 8 ⟨2, Tg.head 1 p, p, -1⟩)) (Sep (BO my (pushM 40 1 8 ⟨2, Tg.head 1 p, q⟩)) Nought)))) (by ac_rfl))
            have l1 : w10.cell? ⟨bl, 1, none⟩ = some (.int .i64 1) := cell_of_heap (O10.out.has (m := bl) (o := lay40) (R := Sep (AX qa 40 1 pa ra s8 40 [] 1 rl) (Sep (BO mz (popM 40 1 8 ⟨3, Tg.head 1 p, p, -1⟩)) (Sep (BO mx (popM 40 1 8 ⟨2, Tg.head 1 p, p, -1⟩)) (Sep (BO my (pushM 40 1 8 ⟨2, Tg.head 1 p, q⟩)) Nought)))) (by ac_rfl))
            clear O9 HPG
            go_wp2_with fail
            refine (lawPush lR4 O10.out (p : Int) HOKP.out (by rw [HF8.out.1, HWW.out])).mono ?_
            rintro e w11 ⟨rfl, s9, e9, o11⟩
            have F9 : Hid (Fx p q s9.words (Tg.head 3 p) 0 (p + 1)) := hide (by rw [e9]; exact HF8.out.alone hp4 hn (by omega))
            clear l0 l1 HF8 e9 O10
            have hb1 : Tg.head 1 (p : Int) < 18446744073709551616 := Tg.head_lt 1 (p : Int) (by omega) (by omega) (by omega)
            have hb3 : Tg.head 3 (p : Int) < 18446744073709551616 := Tg.head_lt 3 (p : Int) (by omega) (by omega) (by omega)
            have HAW := hide (fun u => awake12 u)
            cases pop with
            | true =>
              obtain ⟨s10, s11, s12, s13, b1, b2, b3, b4, ⟨n9, n10, n11, n12, n13⟩, blst⟩ := lostB p q hp4 s9 F9.out
              have B1 := hide b1
              have B2 := hide b2
              have B3 := hide b3
              have B4 := hide b4
              have BL9 := hide n9
              have BL10 := hide n10
              have BL11 := hide n11
              have BL12 := hide n12
              have BL13 := hide n13
              have BLS := hide blst
              have lZ : Loc (Sep (BO mz (popM 40 1 8 ⟨3, Tg.head 1 p, p, -1⟩)) (Sep (BO my (pushM 40 1 8 ⟨2, Tg.head 1 p, q⟩)) (Sep (BO bl lay40) Nought))) := Loc.bo.sep (Loc.bo.sep lB)
              have HB1' := hide hb1
              have HB3' := hide hb3
              have O11 := hide (o11.cast (R' := Sep (BO mx (popM 40 1 8 ⟨2, Tg.head 1 p, p, -1⟩)) (Sep (AX qa 40 1 pa ra s9 40 [] 1 rl) (Sep (BO mz (popM 40 1 8 ⟨3, Tg.head 1 p, p, -1⟩)) (Sep (BO my (pushM 40 1 8 ⟨2, Tg.head 1 p, q⟩)) (Sep (BO bl lay40) Nought))))) (by ac_rfl))
              clear o11 b1 b2 b3 b4 n9 n10 n11 n12 n13 blst hb1 hb3 F9
              go_wp2_with fail
              refine (popE lZ O11.out B1.out.1 B1.out.2 (by rw [BL9.out]; omega) HB1'.out (.inr (.inr rfl)) (fun h => absurd h (by show ¬ ((2 : Int) = 1); decide)) (by rw [HWW.out]; exact BL9.out)).mono ?_
              rintro e w12 ⟨rfl, o12⟩
              have O12 := hide o12
              clear o12 O11
              unfold didK
              go_wp2_with fail
              refine (popDone _ _ _ _ _ _ _ _ _ (Own.boAt O12.out) false rfl).mono ?_
              rintro e w12' ⟨rfl, rfl⟩
              go_wp2_with fail
              refine (popE lZ O12.out B2.out.1 B2.out.2 (by rw [BL10.out]; omega) HB1'.out (.inl rfl) (fun h => absurd h (by show ¬ ((0 : Int) = 1); decide)) (by rw [HWW.out]; exact BL10.out)).mono ?_
              rintro e w13 ⟨rfl, o13⟩
              have O13 := hide o13
              clear o13 O12
              unfold didK
              go_wp2_with fail
              refine (popE lZ O13.out B3.out.1 B3.out.2 (by rw [BL11.out]; omega) HB3'.out (.inr (.inl rfl)) (fun _ => HOKP.out) (by rw [HWW.out]; exact BL11.out)).mono ?_
              rintro e w14 ⟨rfl, o14⟩
              have O14 := hide o14
              clear o14 O13
              unfold didK
              go_wp2_with fail
              refine (popE lZ O14.out B4.out.1 B4.out.2 (by rw [BL12.out]; omega) HB3'.out (.inr (.inr rfl)) (fun h => absurd h (by show ¬ ((2 : Int) = 1); decide)) (by rw [HWW.out]; exact BL12.out)).mono ?_
              rintro e w15 ⟨rfl, o15⟩
              have O15 := hide o15
              clear o15 O14
              unfold didK
              go_wp2_with fail
              refine (popDone _ _ _ _ _ _ _ _ _ (Own.boAt O15.out) true rfl).mono ?_
              rintro e w16 ⟨rfl, rfl⟩
              go_wp2_with fail
              refine (popPage _ _ _ _ _ _ _ _ (Own.boAt O15.out)).mono ?_
              rintro e w17 ⟨rfl, rfl⟩
              go_wp2_with fail
              refine (stackList (O15.out.cast BO.swap) 8 (by decide) (by rw [BL13.out, HWW.out]) 40 rfl [] BLS.out).mono ?_
              rintro e w18 ⟨v, rfl, ⟨va, vc, rfl, _⟩, b18⟩
              have HB18 := hide (O15.out.back.trans (b18.mono O15.out.back.size))
              clear b18 O15
              go_wp2_with fail
              refine (HAW.out _).mono ?_
              rintro e w19 ⟨rfl, b19⟩
              have HB19 := hide (HB18.out.trans (b19.mono HB18.out.size))
              clear b19 HB18
              go_wp2
              go_ret
              exact ⟨rfl, HB19.out⟩
            | false =>
              obtain ⟨s10, s11, s12, s13, b1, b2, b3, b4, ⟨n9, n10, n11, n12, n13⟩, blst⟩ := lostC p q hp4 hq4 hn s9 F9.out
              have B1 := hide b1
              have B2 := hide b2
              have B3 := hide b3
              have B4 := hide b4
              have BL9 := hide n9
              have BL10 := hide n10
              have BL11 := hide n11
              have BL12 := hide n12
              have BL13 := hide n13
              have BLS := hide blst
              have lZ : Loc (Sep (BO mz (popM 40 1 8 ⟨3, Tg.head 1 p, p, -1⟩)) (Sep (BO mx (popM 40 1 8 ⟨2, Tg.head 1 p, p, -1⟩)) (Sep (BO bl lay40) Nought))) := Loc.bo.sep (Loc.bo.sep lB)
              have HB1' := hide hb1
              have HB3' := hide hb3
              have O11 := hide (o11.cast (R' := Sep (BO my (pushM 40 1 8 ⟨2, Tg.head 1 p, q⟩)) (Sep (AX qa 40 1 pa ra s9 40 [] 1 rl) (Sep (BO mz (popM 40 1 8 ⟨3, Tg.head 1 p, p, -1⟩)) (Sep (BO mx (popM 40 1 8 ⟨2, Tg.head 1 p, p, -1⟩)) (Sep (BO bl lay40) Nought))))) (by ac_rfl))
              clear o11 b1 b2 b3 b4 n9 n10 n11 n12 n13 blst hb1 hb3 F9
              go_wp2_with fail
              refine (pushE lZ O11.out B1.out.1 B1.out.2 (by rw [BL9.out]; omega) HB1'.out (.inr (.inr rfl)) HOKQ.out (by rw [HWW.out]; exact BL9.out)).mono ?_
              rintro e w12 ⟨rfl, o12⟩
              have O12 := hide o12
              clear o12 O11
              unfold didK
              go_wp2_with fail
              refine (pushDone _ _ _ _ _ _ _ _ (Own.boAt O12.out) false rfl).mono ?_
              rintro e w12' ⟨rfl, rfl⟩
              go_wp2_with fail
              refine (pushE lZ O12.out B2.out.1 B2.out.2 (by rw [BL10.out]; omega) HB1'.out (.inl rfl) HOKQ.out (by rw [HWW.out]; exact BL10.out)).mono ?_
              rintro e w13 ⟨rfl, o13⟩
              have O13 := hide o13
              clear o13 O12
              unfold didK
              go_wp2_with fail
              refine (pushE lZ O13.out B3.out.1 B3.out.2 (by rw [BL11.out]; omega) HB3'.out (.inr (.inl rfl)) HOKQ.out (by rw [HWW.out]; exact BL11.out)).mono ?_
              rintro e w14 ⟨rfl, o14⟩
              have O14 := hide o14
              clear o14 O13
              unfold didK
              go_wp2_with fail
              refine (pushE lZ O14.out B4.out.1 B4.out.2 (by rw [BL12.out]; omega) HB3'.out (.inr (.inr rfl)) HOKQ.out (by rw [HWW.out]; exact BL12.out)).mono ?_
              rintro e w15 ⟨rfl, o15⟩
              have O15 := hide o15
              clear o15 O14
              unfold didK
              go_wp2_with fail
              refine (pushDone _ _ _ _ _ _ _ _ (Own.boAt O15.out) true rfl).mono ?_
              rintro e w16 ⟨rfl, rfl⟩
              go_wp2_with fail
              refine (stackList (O15.out.cast BO.swap) 8 (by decide) (by rw [BL13.out, HWW.out]) 40 rfl [(q : Int), (p : Int)] BLS.out).mono ?_
              rintro e w18 ⟨v, rfl, hv, b18⟩
              have HV := hide hv
              have HB18 := hide (O15.out.back.trans (b18.mono O15.out.back.size))
              clear b18 O15 hv
              go_wp2_with fail
              have hA := grown1 w18 (.cells #[.int .i64 (q : Int), .int .i64 (p : Int)] 3)
              have hc := heap_alloc_at w18 (.cells #[.int .i64 (q : Int), .int .i64 (p : Int)] 3)
              have hW2 : IntsV (w18.alloc (.cells #[.int .i64 (q : Int), .int .i64 (p : Int)] 3)) (.slice (some ⟨w18.heap.size, 0, none⟩) 2 2) [(q : Int), (p : Int)] := by
                refine ⟨_, _, rfl, fun _ => ⟨w18.heap.size, rfl, lt_of_heap hc, fun i hi => ?_⟩⟩
                match i, hi with
                | 0, _ => exact cell_of_heap hc
                | 1, _ => exact cell_of_heap hc
              refine (sameInts _ v _ [(q : Int), (p : Int)] (HV.out.below hA) hW2 (by simp)).mono ?_
              rintro e w19 ⟨rfl, h19⟩
              have HB19 := hide ((HB18.out.trans (hA.mono HB18.out.size)).trans (h19.below _))
              clear h19 hW2 hc hA HB18 HV
              go_wp2_with fail
              refine (HAW.out _).mono ?_
              rintro e w20 ⟨rfl, b20⟩
              have HB20 := hide (HB19.out.trans (b20.mono HB19.out.size))
              clear b20 HB19
              go_wp2
              go_ret
              exact ⟨rfl, HB20.out⟩

theorem walk (a : Nat) (ha : a < 256) (b : Nat) (hb : b < 256) (pop : Bool) (w : World) :
    Calls Try.prog 5 #[.int .u8 (a : Int), .int .u8 (b : Int), .bool pop] w fun e w' => e = .returned (.bool true) ∧ Below w.heap.size w w' :=
  main a ha b hb pop _ _ _ rfl rfl rfl w

set_option maxRecDepth 100000 in
theorem lifted (os : Os) (started : os.Started) (H : Type) (enc : TypeId × Value → H) :
    ReturnsInHanded {} Try.checked os 5 .any (Rows.stackLostSpec.pre6 enc Try.prog Try.f5 Rows.stackLostRow.domain false) (Rows.stackLostSpec.post enc Try.prog Try.f5 false true false false) := by
  refine returnsInHanded_of_change (C := Try.checked) own started (by kernel_rfl) Try.func5
    (ChangeSpec.witness6 (enc := enc) (C := Try.checked) false ⟨#[], #[.int .u8 0, .int .u8 0, .bool false], []⟩ 8 (by kernel_rfl) (by kernel_rfl) (by kernel_rfl) (by kernel_rfl)) ?_
  intro W base args ds gs before hval0 hW _ _
  have hval : ∀ (j : Nat) t v, Try.f5.params[j]? = some t → args[j]? = some v → Value.okWide Try.prog W .any base t v := hval0
  have hW' := hW
  obtain ⟨p, q, hA0, hV, rfl, hfz, hnd⟩ := hW
  have hA : DataW.TrodAll enc Try.prog W 0 (fun _ => true) true Try.f5.params.toList args.toList ds p := hA0
  rw [Try.params5] at hA hval
  obtain ⟨v0, vs0, d0, ds0, p0, q0, hargs, rfl, rfl, h0, r0⟩ := trodAll_cons hA
  obtain ⟨v1, vs1, d1, ds1, p1, q1, rfl, rfl, rfl, h1, r1⟩ := trodAll_cons r0
  obtain ⟨v2, vs2, d2, ds2, p2, q2, rfl, rfl, rfl, h2, r2⟩ := trodAll_cons r1
  obtain ⟨rfl, rfl, rfl⟩ := trodAll_nil r2
  obtain rfl : args = #[v0, v1, v2] := by cases args; simp_all
  obtain ⟨rfl, rfl⟩ := trodVars_none hV
  obtain ⟨a0, rfl, rfl, rfl, w0⟩ := open_int Try.underlying5 (hval 0 5 v0 rfl rfl) h0
  obtain ⟨a1, rfl, rfl, rfl, w1⟩ := open_int Try.underlying5 (hval 1 5 v1 rfl rfl) h1
  obtain ⟨a2, rfl, rfl, rfl⟩ := open_bool Try.underlying4 (hval 2 4 v2 rfl rfl) h2
  clear hA0 hval0
  obtain ⟨x0, hx0, rfl⟩ := u8_nat w0
  obtain ⟨x1, hx1, rfl⟩ := u8_nat w1
  refine (walk x0 hx0 x1 hx1 a2 W).mono fun e W' ⟨he, bel⟩ => ?_
  subst he
  exact ⟨_, rfl, _, _, _, [], _, [], hW', trodAll_mk1 (shut_bool Try.underlying4 _), (trodAll_cons_mk (shut_int Try.underlying5 w0) (trodAll_cons_mk (shut_int Try.underlying5 w1) (trodAll_cons_mk (shut_bool Try.underlying4 _) trodAll_mk0))), rfl, bel.frame _, fun h => by cases h⟩

end Go.Proofs.Ytigokeocphbffaa.stackLost
namespace Go.Proofs.Ytigokeocphbffaa

theorem stackLost_holds : Rows.StackLostSaid :=
  OpenClaim.holds_of_wide 5 Try.f5 rfl rfl rfl rfl rfl rfl rfl ⟨rfl, rfl, rfl, rfl, rfl⟩ rfl rfl rfl rfl rfl (by kernel_rfl) Try.func5 (by kernel_rfl)
    (of_decide_eq_true (by kernel_rfl)) (by unfold Func.isWrapper; first | (rw [if_pos (by decide +kernel)]; kernel_rfl) | (rw [if_neg (by decide +kernel)]; exact ⟨rfl, rfl⟩))
    (fun os started H enc _ => stackLost.lifted os started H enc)
end Go.Proofs.Ytigokeocphbffaa
