/- What is laid is read as it was laid, by its first page alone; each of its pages is of it; gone, no page is, and it is not read: the law RecordBack answers true at every input, the listed table of package class being as it is. -/
import Derived.Test.YtgdliebllmgibaaDoorRecBackM
import Derived.Test.YtgdliebllmgibaaDoorRecLaw
import Derived.Test.YtgdliebllmgibaaDoorRecIdx
import Derived.Test.YtgdliebllmgibaaDoorLaidK
namespace Go.Proofs.YtgdliebllmgibaaDoor.recordBack
open Go.ChangeShapes Go.WideShapes Go.ChangeAt Go.RowKit

theorem spans_one (u : World) (pg n c : Nat) (g : Int) (al : Nat) : SpansV (u.alloc (.cells #[.int .i64 (pg : Int), .int .i64 (n : Int), .int .i64 (c : Int), .int .i64 g, .int .i64 2, .int .u64 (al : Int), .int .u64 0] 45)) (.slice (some ⟨u.heap.size, 0, none⟩) 1 1) [wantSp pg n c g al] := by
  have h := heap_alloc_at u (.cells #[.int .i64 (pg : Int), .int .i64 (n : Int), .int .i64 (c : Int), .int .i64 g, .int .i64 2, .int .u64 (al : Int), .int .u64 0] 45)
  refine ⟨_, _, rfl, fun i hi => ?_⟩
  obtain rfl : i = 0 := by simpa using hi
  exact ⟨_, rfl, by simp, cell_of_heap h, cell_of_heap h, cell_of_heap h, cell_of_heap h, cell_of_heap h, cell_of_heap h, cell_of_heap h⟩
theorem put_did (s : St) (i v : Nat) : ∃ a b c : Value, (s.put i v).did = .agg #[.int .i64 2, a, b, c] := ⟨_, _, _, rfl⟩
theorem didField0 (a b c d : Value) (w : World) : (Instr.field 34 (.agg #[a, b, c, d]) 0).run Tryd.prog w = .ok a w := by kernel_rfl
theorem wpList_load_row_w {P : Program} {ops : Array Oper} {rest : List Oper} {o : Oper} {a : Act} {w : World} {Q : Exit → Act → World → Prop} (hw : Region.wanted o (yielded ops a.tmps) = true) (ty : TypeId) (x : Operand) (ho : o.op = .load ty x)
    (g : Nat) (hx : a.eval x = .pointer (some ⟨g, 0, none⟩)) (t : TypeId) (cs : Array Value) (fr : Nat × Nat) (d : TypeDesc) (hg : w.heap[g]? = some (.cells cs t fr))
    (hu : P.underlying ty = some d) (hd : (match d with | .struct _ | .array _ _ => true | _ => false) = true) (hi : (P.info? ty).map (·.size) = some cs.size)
    (h : wpList P ops Q rest (a.put o.dst (.agg cs)) w) : wpList P ops Q (o :: rest) a w := by
  show (if Region.wanted o (yielded ops a.tmps) = true then o.wp P a w (wpList P ops Q rest) Q ∨ (o.asks P a w ∧ LetsOut Q) else wpList P ops Q rest (a.put o.dst undef) w)
  rw [if_pos hw]
  exact .inl (wp_load_row ty x ho g hx t cs fr d hg hu hd hi h)
theorem Own.boRow {R : Res} {w0 w : World} {m : Nat} {c : Array Value} {ty : TypeId} (l : Loc R) (h : Own (Sep (BO m (.cells c ty (0, 0))) R) w0 w) (d : Array Value) :
    Own (Sep (BO m (.cells d ty (0, 0))) R) w0 (w.setRow m d) := by
  obtain ⟨G, ⟨G1, G2, ⟨h1, e⟩, r, cc, dd⟩, h2, h3⟩ := h
  refine Own.step (G1 := G1) (G1' := G1) (G2 := G2) l h3 (fun x hx => h2 x ((dd x).2 hx)) r cc ⟨setRow_heap _ _ _ _ _ _ h1, e⟩ ⟨rfl, rfl, rfl, by simp, fun k hk hn => setRow_other _ _ _ _ (fun h => hn (by subst h; exact (e k).2 rfl))⟩ (fun x hx => .inl hx)
set_option maxRecDepth 100000 in
set_option maxHeartbeats 16000000 in
theorem walk (pp : Nat) (_hpp : pp < 256) (pa : Nat) (_hpa : pa < 256) (k : Nat) (hk : k < 256) (mask : Nat) (hmask : mask < 18446744073709551616) (w : World) (hCT : ClsTab w) :
    Calls Tryd.prog 3 #[.int .u8 (pp : Int), .int .u8 (pa : Int), .int .u8 (k : Int), .int .u64 (mask : Int)] w fun e w' => e = .returned (.bool true) ∧ Below w.heap.size w w' := by
  obtain ⟨N, hN⟩ : ∃ N : Nat, 1 + pp % 60 = N := ⟨_, rfl⟩
  have hNi : 1 + (pp : Int) % 60 = (N : Int) := by omega
  have hN1 : 1 ≤ N := by omega
  have hN2 : N ≤ 60 := by omega
  obtain ⟨pg, hpg⟩ : ∃ pg : Nat, pa % N = pg := ⟨_, rfl⟩
  have hpgN : pg < N := by rw [← hpg]; exact Nat.mod_lt _ (by omega)
  have hpgi : (pa : Int) % (N : Int) = (pg : Int) := by rw [← hpg]; omega
  have dz : ((N : Int) == 0) = false := by rw [beq_eq_false_iff_ne]; omega
  have dz' : ¬ (N : Int) = 0 := by omega
  have hm : Lay.may (N : Int) 2 = true := Lay.may_iff.2 ⟨by omega, by omega, by omega, by omega⟩
  obtain ⟨c, n, hc, hn1, hpn, hcn, hLay⟩ := lawLay N 2 (by omega) pg hpgN k (by omega) mask hmask
  obtain ⟨al, hal⟩ : ∃ al, mask &&& slotsB (c : Int) = al := ⟨_, rfl⟩
  rw [hal] at hLay
  have hals : al ≤ slotsB (c : Int) := by rw [← hal]; exact Nat.and_le_right
  have halb : al < 18446744073709551616 := by rw [← hal]; exact Nat.lt_of_le_of_lt Nat.and_le_left hmask
  have hgc : Ph.cyc (1 + (k : Int)) = true := Ph.cyc_iff.2 ⟨by omega, by omega⟩
  have hgs : hasPg (N : Int) 2 (pg : Int) (n : Int) = true := hasPg_iff.2 ⟨hm, by omega, by omega, by omega⟩
  have hmay : mayLay (N : Int) 2 (pg : Int) (c : Int) (n : Int) (1 + (k : Int)) al = true := by
    unfold mayLay
    rw [hgc, hgs, Bool.true_and, Bool.true_and]
    exact mayB_iff.2 ⟨by omega, by omega, by rcases hcn with h | h; exact .inl (by omega); exact .inr (by omega), hals⟩
  obtain ⟨st, hst⟩ : ∃ st, Ph.state (1 + (k : Int)) 2 = st := ⟨_, rfl⟩
  have hstb : st < 18446744073709551616 := by rw [← hst]; exact Ph.state_lt hgc (by decide)
  have hbs : (256 * (n : Int) + (c : Int)).toNat = 256 * n + c := by omega
  have HNL := hide (fun (u : World) (hu : Below w.heap.size w u) => newLayYes (N : Int) 2 (pg : Int) (c : Int) (n : Int) (1 + (k : Int)) al (by omega) hmay u (hCT.grown hu))
  rw [hbs, hst] at HNL
  have HNG := hide (fun (u : World) => newGoneYes (N : Int) 2 (pg : Int) (n : Int) (by omega) hgs u)
  have HA1 := hide (fun (R : Res) (w0 u : World) (l : Loc R) (ho : Own R w0 u) => @anew R w0 u l ho N 2 hm [] (by simp) none 0 (fun _ => ⟨rfl, rfl⟩) (fun h => absurd rfl h))
  have HAW := hide (fun (u : World) (hu : Below w.heap.size w u) => awake14 u (hCT.grown hu))
  obtain ⟨f, hf⟩ : ∃ f, layAt (N : Int) 2 pg n (256 * n + c) al st = f := ⟨_, rfl⟩
  have hf' : layAt (N : Int) 2 pg n (256 * n + c) al (Ph.state (1 + (k : Int)) 2) = f := by rw [hst, hf]
  have HR0 := hide (fun (i : Nat) (hi : i ≤ n + 3) => back_read0 (c := c) (al := al) (st := st) hm hn1 hpn i hi)
  have HSD := back_said (c := c) (al := al) (g := 1 + (k : Int)) hm hn1 hpn hc hgc
  have HLI := back_list (c := c) (al := al) (g := 1 + (k : Int)) hm hn1 hpn hc hgc
  have HIX := hide (fun (j : Nat) (hj : j < N) => back_index (c := c) (al := al) (st := st) hm hn1 hpn j hj)
  have HTZ := hide (fun (p : Nat) (hp : p < N) (hne : p ≠ pg) => back_tol (c := c) (al := al) (st := st) hm hn1 hpn (n + 4) (by omega) p 0 hp (by omega) 9 rfl)
  have HT9 := back_tol (c := c) (al := al) (st := st) hm hn1 hpn (n + 4) (by omega) pg 0 hpgN (by omega) 9 rfl
  have hst0 : st ≠ 0 := by rw [← hst]; exact Ph.state_ne hgc (by decide)
  rw [hf'] at HSD HLI
  rw [hf] at HR0 HIX HTZ HT9
  obtain ⟨s0, hs0⟩ : ∃ s0, St.first (Lay.words (N : Int) 2).toNat = s0 := ⟨_, rfl⟩
  have hl0 : s0.words.length = (Lay.words (N : Int) 2).toNat := by rw [← hs0]; exact first_len _
  rw [hs0] at HR0 HSD HLI HIX HTZ HA1 HT9
  generalize ([(kOf 0 N, ([] : List Nat).getD 0 0, ())] : RL) = rl at *
  rw [List.length_nil] at HA1
  obtain ⟨s1, hs1⟩ : ∃ s1, putN f s0 (n + 4) = s1 := ⟨_, rfl⟩
  rw [hs1] at HSD HLI HIX HTZ HT9
  have hl1 : s1.words.length = (Lay.words (N : Int) 2).toNat := by rw [← hs1, putN_len, hl0]
  have HLay := hide hLay
  have HF := hide hf
  have HS1 := hide hs1
  have HL0 := hide hl0
  have HL1 := hide hl1
  have HM := hide hm
  have HLI := hide HLI
  have hrd1 : Rec.read s1.words (N : Int) 2 (pg : Int) = (wantSp pg n c (1 + (k : Int)) al, true) := by
    have h9 := HT9
    rw [if_neg (by omega), if_neg (by omega), if_neg (by omega), if_pos ⟨rfl, rfl, by omega⟩] at h9
    unfold Rec.read
    rw [h9, if_neg hst0, HSD]
  have HG0 := hide (fun (i : Nat) (hi : i ≤ n) => (gone_read hm hn1 hpn s1 hl1 i hi).trans hrd1)
  have HGL := hide (gone_list hm hn1 hpn s1 hl1 (fun p hp hne => by rw [HTZ.out p hp hne, if_neg (fun h => hne h.1), if_neg (fun h => hne h.1), if_neg (fun h => hne h.1), if_neg (fun h => hne h.1)]))
  have HGX := hide (fun (j : Nat) (hj : j < N) => gone_index hm hn1 hpn s1 hl1 (pg + 1) HIX.out j hj)
  have b1 := heap_alloc_at w (.cells #[.int .i64 (N : Int), .int .i64 2] 24)
  have HB1 := hide (grown1 w (.cells #[.int .i64 (N : Int), .int .i64 2] 24))
  have HBX := hide b1
  clear hLay hf hf' hs0 hs1 hl0 hl1 hm b1 hCT hmay hgs hgc hst hbs hals hal hcn hN hpg HSD HT9 HTZ hmask hst0 hrd1
  go_enter Tryd.func3, Tryd.ntmps3
  go_wp2_with fail
  have O1 := hide (Own.boNew (m := w.heap.size) (o := .cells #[.int .i64 (N : Int), .int .i64 2] 24 (0, 0)) Loc.nought (Own.start w) HBX.out (Nat.le_refl _) HB1.out)
  clear HBX HB1
  generalize w.alloc (.cells #[.int .i64 (N : Int), .int .i64 2] 24) = w1 at *
  generalize hbl : w.heap.size = bl at *
  obtain ⟨LO, hLO⟩ : ∃ LO : Obj, LO = .cells #[.int .i64 (N : Int), .int .i64 2] 24 (0, 0) := ⟨_, rfl⟩
  rw [← hLO] at O1
  have HLO := hide hLO
  have HBL := hide hbl
  clear hLO hbl
  have lb : Loc (Sep (BO bl LO) Nought) := Loc.bo.sep Loc.nought
  refine (HA1.out _ _ _ lb O1.out).mono ?_
  rintro e w2 ⟨q, p, r, rfl, o2⟩
  have O2 := hide o2
  clear o2 O1 HA1
  have lA : ∀ {s : St} {R : Res}, Loc R → Loc (Sep (AX q (N : Int) 2 p r (s) N [] 1 rl) R) := fun l => Loc.ax.sep l
  obtain ⟨MO, hMO⟩ : ∃ MO : Obj, MO = .cells #[.int .i64 5, .int .i64 (N : Int), .int .i64 2, .int .i64 0, .int .i64 (pg : Int), .int .i64 (c : Int), .int .i64 (n : Int), .int .i64 (1 + (k : Int)), .int .i64 0, .int .i64 0, .int .i64 0, .int .u64 (al : Int), .bool false, .slice none 0 0, .slice none 0 0, .bool false, .int .i64 0, .bool false, .pointer none, .int .i64 0, .int .i64 0, .int .u64 0, .int .u64 0, .int .i64 0, .int .i64 0, .int .i64 0, .int .i64 0, .int .u64 0, .slice none 0 0, .slice none 0 0, .int .i64 0, .int .i64 0] 38 (0, 0) := ⟨_, rfl⟩
  have HMO := hide hMO
  clear hMO
  go_upto_region 4 with fail
  go_cut [12] from 31 to 39 (fun v wc => ∃ bx : Nat, v = .pointer (some ⟨bx, 0, none⟩) ∧ Hid (Own (Sep (BO bx MO) (Sep (AX q (N : Int) 2 p r (s0) N [] 1 rl) (Sep (BO bl LO) Nought))) w wc))
  case first =>
    have O3 := hide (O2.out.below (lA lb) ((Alike.drewN w2 1).below _))
    clear O2
    have J3 : Hid (BkAt bl LO w2.drew) := hide (O3.out.has (R := Sep (AX q (N : Int) 2 p r (s0) N [] 1 rl) Nought) (by ac_rfl))
    have hne : Nonempty (Mem (BkAt bl LO)) := ⟨⟨_, J3.out⟩⟩
    have U0 : ∀ u : Mem (BkAt bl LO), u.w'.cell? ⟨bl, 0, none⟩ = some (.int .i64 (N : Int)) := fun u => cell_of_heap (by rw [← HLO.out]; exact u.h)
    have U1 : ∀ u : Mem (BkAt bl LO), u.w'.cell? ⟨bl, 1, none⟩ = some (.int .i64 2) := fun u => cell_of_heap (by rw [← HLO.out]; exact u.h)
    refine region_start (J := BkAt bl LO) (by kernel_rfl) ?_
    refine stretch (fuel := 3) (by kernel_rfl) (fun _ _ _ _ _ h => h) J3.out [0, 1, 2, 3, 4, 5, 6, 7] (by kernel_rfl) ?_
    simp only [List.filterMap_cons, List.filterMap_nil, List.getElem?_toArray, List.getElem?_cons_zero, List.getElem?_cons_succ]
    show wpQuiet _ _ _ _ [_, _, _, _, _, _, _, _] _
    repeat (go_big_quiet_step (fail))
    refine wpQuiet_nil ?_
    clear U0 U1
    refine wpAnyJ_two (i := 8) (j := 9) rfl rfl (by kernel_rfl) (fun K' hK => ?_) (fun K' hK => ?_)
    · go_simp
      refine (HLay.out _).mono ?_
      rintro e w3 ⟨rfl, b3⟩
      have O4 := hide (O3.out.below (lA lb) b3)
      have J4 : Hid (BkAt bl LO w3) := hide (O4.out.has (R := Sep (AX q (N : Int) 2 p r (s0) N [] 1 rl) Nought) (by ac_rfl))
      refine hK _ _ J4.out ?_
      clear hK K' b3 O3 J3
      refine wpAnyJ_writer (i := 9) rfl (by kernel_rfl) (fun K' hK => ?_)
      go_simp
      have hold : (w3.alloc (.cells #[.int .i64 0, .int .i64 0, .int .i64 0, .int .i64 0, .int .i64 0, .int .i64 0, .int .i64 0, .int .i64 0, .int .i64 0, .int .i64 0, .int .i64 0, .int .u64 0, .bool false, .slice none 0 0, .slice none 0 0, .bool false, .int .i64 0, .bool false, .pointer none, .int .i64 0, .int .i64 0, .int .u64 0, .int .u64 0, .int .i64 0, .int .i64 0, .int .i64 0, .int .i64 0, .int .u64 0, .slice none 0 0, .slice none 0 0, .int .i64 0, .int .i64 0] 38)).heap[w3.heap.size]? = some (.cells #[.int .i64 0, .int .i64 0, .int .i64 0, .int .i64 0, .int .i64 0, .int .i64 0, .int .i64 0, .int .i64 0, .int .i64 0, .int .i64 0, .int .i64 0, .int .u64 0, .bool false, .slice none 0 0, .slice none 0 0, .bool false, .int .i64 0, .bool false, .pointer none, .int .i64 0, .int .i64 0, .int .u64 0, .int .u64 0, .int .i64 0, .int .i64 0, .int .i64 0, .int .i64 0, .int .u64 0, .slice none 0 0, .slice none 0 0, .int .i64 0, .int .i64 0] 38 (0, 0)) := heap_alloc_at _ _
      have O5 := hide (Own.boNew (m := w3.heap.size) (o := .cells #[.int .i64 5, .int .i64 (N : Int), .int .i64 2, .int .i64 0, .int .i64 (pg : Int), .int .i64 (c : Int), .int .i64 (n : Int), .int .i64 (1 + (k : Int)), .int .i64 0, .int .i64 0, .int .i64 0, .int .u64 (al : Int), .bool false, .slice none 0 0, .slice none 0 0, .bool false, .int .i64 0, .bool false, .pointer none, .int .i64 0, .int .i64 0, .int .u64 0, .int .u64 0, .int .i64 0, .int .i64 0, .int .i64 0, .int .i64 0, .int .u64 0, .slice none 0 0, .slice none 0 0, .int .i64 0, .int .i64 0] 38 (0, 0)) (lA lb) O4.out (heap_alloc_at _ (.cells #[.int .i64 5, .int .i64 (N : Int), .int .i64 2, .int .i64 0, .int .i64 (pg : Int), .int .i64 (c : Int), .int .i64 (n : Int), .int .i64 (1 + (k : Int)), .int .i64 0, .int .i64 0, .int .i64 0, .int .u64 (al : Int), .bool false, .slice none 0 0, .slice none 0 0, .bool false, .int .i64 0, .bool false, .pointer none, .int .i64 0, .int .i64 0, .int .u64 0, .int .u64 0, .int .i64 0, .int .i64 0, .int .i64 0, .int .i64 0, .int .u64 0, .slice none 0 0, .slice none 0 0, .int .i64 0, .int .i64 0] 38)) (Nat.le_refl _) (grown1 _ _))
      have J5 : Hid (BkAt bl LO (w3.alloc (.cells #[.int .i64 0, .int .i64 0, .int .i64 0, .int .i64 0, .int .i64 0, .int .i64 0, .int .i64 0, .int .i64 0, .int .i64 0, .int .i64 0, .int .i64 0, .int .u64 0, .bool false, .slice none 0 0, .slice none 0 0, .bool false, .int .i64 0, .bool false, .pointer none, .int .i64 0, .int .i64 0, .int .u64 0, .int .u64 0, .int .i64 0, .int .i64 0, .int .i64 0, .int .i64 0, .int .u64 0, .slice none 0 0, .slice none 0 0, .int .i64 0, .int .i64 0] 38))) := hide ((grown1 w3 (.cells #[.int .i64 0, .int .i64 0, .int .i64 0, .int .i64 0, .int .i64 0, .int .i64 0, .int .i64 0, .int .i64 0, .int .i64 0, .int .i64 0, .int .i64 0, .int .u64 0, .bool false, .slice none 0 0, .slice none 0 0, .bool false, .int .i64 0, .bool false, .pointer none, .int .i64 0, .int .i64 0, .int .u64 0, .int .u64 0, .int .i64 0, .int .i64 0, .int .i64 0, .int .i64 0, .int .u64 0, .slice none 0 0, .slice none 0 0, .int .i64 0, .int .i64 0] 38)).block _ (lt_of_heap J4.out) |>.trans J4.out)
      have J6 : Hid (BkAt bl LO (w3.alloc (.cells #[.int .i64 5, .int .i64 (N : Int), .int .i64 2, .int .i64 0, .int .i64 (pg : Int), .int .i64 (c : Int), .int .i64 (n : Int), .int .i64 (1 + (k : Int)), .int .i64 0, .int .i64 0, .int .i64 0, .int .u64 (al : Int), .bool false, .slice none 0 0, .slice none 0 0, .bool false, .int .i64 0, .bool false, .pointer none, .int .i64 0, .int .i64 0, .int .u64 0, .int .u64 0, .int .i64 0, .int .i64 0, .int .i64 0, .int .i64 0, .int .u64 0, .slice none 0 0, .slice none 0 0, .int .i64 0, .int .i64 0] 38))) := hide ((grown1 w3 (.cells #[.int .i64 5, .int .i64 (N : Int), .int .i64 2, .int .i64 0, .int .i64 (pg : Int), .int .i64 (c : Int), .int .i64 (n : Int), .int .i64 (1 + (k : Int)), .int .i64 0, .int .i64 0, .int .i64 0, .int .u64 (al : Int), .bool false, .slice none 0 0, .slice none 0 0, .bool false, .int .i64 0, .bool false, .pointer none, .int .i64 0, .int .i64 0, .int .u64 0, .int .u64 0, .int .i64 0, .int .i64 0, .int .i64 0, .int .i64 0, .int .u64 0, .slice none 0 0, .slice none 0 0, .int .i64 0, .int .i64 0] 38)).block _ (lt_of_heap J4.out) |>.trans J4.out)
      refine hK _ _ J5.out ?_
      clear hK K'
      refine wpAnyJ_writer (i := 10) rfl (by kernel_rfl) (fun K' hK => ?_)
      refine wp_store_row 38 _ _ rfl w3.heap.size _ rfl rfl _ _ hold (by kernel_rfl) rfl (by kernel_rfl) ?_
      rw [World.setRow_alloc_new]
      refine hK _ _ J6.out ?_
      clear hK K' J5 J6 hold
      refine wpAnyJ_done (by kernel_rfl) ?_
      go_wp2
      go_meet
      exact ⟨_, rfl, by rw [HMO.out]; exact O5⟩
    · go_simp
      have hold : (w2.drew.alloc (.cells #[.int .i64 0, .int .i64 0, .int .i64 0, .int .i64 0, .int .i64 0, .int .i64 0, .int .i64 0, .int .i64 0, .int .i64 0, .int .i64 0, .int .i64 0, .int .u64 0, .bool false, .slice none 0 0, .slice none 0 0, .bool false, .int .i64 0, .bool false, .pointer none, .int .i64 0, .int .i64 0, .int .u64 0, .int .u64 0, .int .i64 0, .int .i64 0, .int .i64 0, .int .i64 0, .int .u64 0, .slice none 0 0, .slice none 0 0, .int .i64 0, .int .i64 0] 38)).heap[w2.drew.heap.size]? = some (.cells #[.int .i64 0, .int .i64 0, .int .i64 0, .int .i64 0, .int .i64 0, .int .i64 0, .int .i64 0, .int .i64 0, .int .i64 0, .int .i64 0, .int .i64 0, .int .u64 0, .bool false, .slice none 0 0, .slice none 0 0, .bool false, .int .i64 0, .bool false, .pointer none, .int .i64 0, .int .i64 0, .int .u64 0, .int .u64 0, .int .i64 0, .int .i64 0, .int .i64 0, .int .i64 0, .int .u64 0, .slice none 0 0, .slice none 0 0, .int .i64 0, .int .i64 0] 38 (0, 0)) := heap_alloc_at _ _
      have O4 := hide (Own.boNew (m := w2.drew.heap.size) (o := .cells #[.int .i64 0, .int .i64 0, .int .i64 0, .int .i64 0, .int .i64 0, .int .i64 0, .int .i64 0, .int .i64 0, .int .i64 0, .int .i64 0, .int .i64 0, .int .u64 0, .bool false, .slice none 0 0, .slice none 0 0, .bool false, .int .i64 0, .bool false, .pointer none, .int .i64 0, .int .i64 0, .int .u64 0, .int .u64 0, .int .i64 0, .int .i64 0, .int .i64 0, .int .i64 0, .int .u64 0, .slice none 0 0, .slice none 0 0, .int .i64 0, .int .i64 0] 38 (0, 0)) (lA lb) O3.out hold (Nat.le_refl _) (grown1 _ _))
      have J5 : Hid (BkAt bl LO (w2.drew.alloc (.cells #[.int .i64 0, .int .i64 0, .int .i64 0, .int .i64 0, .int .i64 0, .int .i64 0, .int .i64 0, .int .i64 0, .int .i64 0, .int .i64 0, .int .i64 0, .int .u64 0, .bool false, .slice none 0 0, .slice none 0 0, .bool false, .int .i64 0, .bool false, .pointer none, .int .i64 0, .int .i64 0, .int .u64 0, .int .u64 0, .int .i64 0, .int .i64 0, .int .i64 0, .int .i64 0, .int .u64 0, .slice none 0 0, .slice none 0 0, .int .i64 0, .int .i64 0] 38))) := hide ((grown1 w2.drew (.cells #[.int .i64 0, .int .i64 0, .int .i64 0, .int .i64 0, .int .i64 0, .int .i64 0, .int .i64 0, .int .i64 0, .int .i64 0, .int .i64 0, .int .i64 0, .int .u64 0, .bool false, .slice none 0 0, .slice none 0 0, .bool false, .int .i64 0, .bool false, .pointer none, .int .i64 0, .int .i64 0, .int .u64 0, .int .u64 0, .int .i64 0, .int .i64 0, .int .i64 0, .int .i64 0, .int .u64 0, .slice none 0 0, .slice none 0 0, .int .i64 0, .int .i64 0] 38)).block _ (lt_of_heap J3.out) |>.trans J3.out)
      refine hK _ _ J5.out ?_
      clear hK K' hold O3 J3
      have O4' : Hid (Own (Sep (BO w2.heap.size (.cells #[.int .i64 0, .int .i64 0, .int .i64 0, .int .i64 0, .int .i64 0, .int .i64 0, .int .i64 0, .int .i64 0, .int .i64 0, .int .i64 0, .int .i64 0, .int .u64 0, .bool false, .slice none 0 0, .slice none 0 0, .bool false, .int .i64 0, .bool false, .pointer none, .int .i64 0, .int .i64 0, .int .u64 0, .int .u64 0, .int .i64 0, .int .i64 0, .int .i64 0, .int .i64 0, .int .u64 0, .slice none 0 0, .slice none 0 0, .int .i64 0, .int .i64 0] 38 (0, 0))) (Sep (AX q (N : Int) 2 p r (s0) N [] 1 rl) (Sep (BO bl LO) Nought))) w (w2.alloc (.cells #[.int .i64 0, .int .i64 0, .int .i64 0, .int .i64 0, .int .i64 0, .int .i64 0, .int .i64 0, .int .i64 0, .int .i64 0, .int .i64 0, .int .i64 0, .int .u64 0, .bool false, .slice none 0 0, .slice none 0 0, .bool false, .int .i64 0, .bool false, .pointer none, .int .i64 0, .int .i64 0, .int .u64 0, .int .u64 0, .int .i64 0, .int .i64 0, .int .i64 0, .int .i64 0, .int .u64 0, .slice none 0 0, .slice none 0 0, .int .i64 0, .int .i64 0] 38)).drew) := hide O4.out
      have J5' : Hid (BkAt bl LO (w2.alloc (.cells #[.int .i64 0, .int .i64 0, .int .i64 0, .int .i64 0, .int .i64 0, .int .i64 0, .int .i64 0, .int .i64 0, .int .i64 0, .int .i64 0, .int .i64 0, .int .u64 0, .bool false, .slice none 0 0, .slice none 0 0, .bool false, .int .i64 0, .bool false, .pointer none, .int .i64 0, .int .i64 0, .int .u64 0, .int .u64 0, .int .i64 0, .int .i64 0, .int .i64 0, .int .i64 0, .int .u64 0, .slice none 0 0, .slice none 0 0, .int .i64 0, .int .i64 0] 38)).drew) := hide J5.out
      clear O4 J5
      have O4 := O4'
      have J5 := J5'
      clear O4' J5'
      generalize (w2.alloc (.cells #[.int .i64 0, .int .i64 0, .int .i64 0, .int .i64 0, .int .i64 0, .int .i64 0, .int .i64 0, .int .i64 0, .int .i64 0, .int .i64 0, .int .i64 0, .int .u64 0, .bool false, .slice none 0 0, .slice none 0 0, .bool false, .int .i64 0, .bool false, .pointer none, .int .i64 0, .int .i64 0, .int .u64 0, .int .u64 0, .int .i64 0, .int .i64 0, .int .i64 0, .int .i64 0, .int .u64 0, .slice none 0 0, .slice none 0 0, .int .i64 0, .int .i64 0] 38)).drew = w3 at *
      generalize w2.heap.size = bx at *
      refine wpAnyJ_writer (i := 8) rfl (by kernel_rfl) (fun K' hK => ?_)
      go_simp
      refine (HLay.out _).mono ?_
      rintro e w4 ⟨rfl, b4⟩
      have O5 := hide (O4.out.below (Loc.bo.sep (lA lb)) b4)
      have J6 : Hid (BkAt bl LO w4) := hide ((b4.block _ (lt_of_heap J5.out)).trans J5.out)
      refine hK _ _ J6.out ?_
      clear hK K' b4 O4 J5
      refine wpAnyJ_writer (i := 10) rfl (by kernel_rfl) (fun K' hK => ?_)
      refine wp_store_row 38 _ _ rfl bx _ rfl rfl _ _ (Own.boAt O5.out) (by kernel_rfl) rfl (by kernel_rfl) ?_
      have hne2 : bl ≠ bx := fun e => by have h1 := Own.boAt O5.out; rw [← e, J6.out, HLO.out] at h1; simp at h1
      have J7 : Hid (BkAt bl LO (w4.setRow bx #[.int .i64 5, .int .i64 (N : Int), .int .i64 2, .int .i64 0, .int .i64 (pg : Int), .int .i64 (c : Int), .int .i64 (n : Int), .int .i64 (1 + (k : Int)), .int .i64 0, .int .i64 0, .int .i64 0, .int .u64 (al : Int), .bool false, .slice none 0 0, .slice none 0 0, .bool false, .int .i64 0, .bool false, .pointer none, .int .i64 0, .int .i64 0, .int .u64 0, .int .u64 0, .int .i64 0, .int .i64 0, .int .i64 0, .int .i64 0, .int .u64 0, .slice none 0 0, .slice none 0 0, .int .i64 0, .int .i64 0])) := hide ((setRow_other _ _ _ _ hne2).trans J6.out)
      have O6 : Hid (Own (Sep (BO bx (.cells #[.int .i64 5, .int .i64 (N : Int), .int .i64 2, .int .i64 0, .int .i64 (pg : Int), .int .i64 (c : Int), .int .i64 (n : Int), .int .i64 (1 + (k : Int)), .int .i64 0, .int .i64 0, .int .i64 0, .int .u64 (al : Int), .bool false, .slice none 0 0, .slice none 0 0, .bool false, .int .i64 0, .bool false, .pointer none, .int .i64 0, .int .i64 0, .int .u64 0, .int .u64 0, .int .i64 0, .int .i64 0, .int .i64 0, .int .i64 0, .int .u64 0, .slice none 0 0, .slice none 0 0, .int .i64 0, .int .i64 0] 38 (0, 0))) (Sep (AX q (N : Int) 2 p r (s0) N [] 1 rl) (Sep (BO bl LO) Nought))) w (w4.setRow bx #[.int .i64 5, .int .i64 (N : Int), .int .i64 2, .int .i64 0, .int .i64 (pg : Int), .int .i64 (c : Int), .int .i64 (n : Int), .int .i64 (1 + (k : Int)), .int .i64 0, .int .i64 0, .int .i64 0, .int .u64 (al : Int), .bool false, .slice none 0 0, .slice none 0 0, .bool false, .int .i64 0, .bool false, .pointer none, .int .i64 0, .int .i64 0, .int .u64 0, .int .u64 0, .int .i64 0, .int .i64 0, .int .i64 0, .int .i64 0, .int .u64 0, .slice none 0 0, .slice none 0 0, .int .i64 0, .int .i64 0])) := hide (Own.boRow (lA lb) O5.out #[.int .i64 5, .int .i64 (N : Int), .int .i64 2, .int .i64 0, .int .i64 (pg : Int), .int .i64 (c : Int), .int .i64 (n : Int), .int .i64 (1 + (k : Int)), .int .i64 0, .int .i64 0, .int .i64 0, .int .u64 (al : Int), .bool false, .slice none 0 0, .slice none 0 0, .bool false, .int .i64 0, .bool false, .pointer none, .int .i64 0, .int .i64 0, .int .u64 0, .int .u64 0, .int .i64 0, .int .i64 0, .int .i64 0, .int .i64 0, .int .u64 0, .slice none 0 0, .slice none 0 0, .int .i64 0, .int .i64 0])
      refine hK _ _ J7.out ?_
      clear hK K'
      refine wpAnyJ_done (by kernel_rfl) ?_
      go_wp2
      go_meet
      exact ⟨bx, rfl, by rw [HMO.out]; exact O6⟩
  case rest =>
    obtain ⟨bx, rfl, O3⟩ := hcut
    go_upto_region 5 with fail
    generalize wc = w3 at *
    have hMx : ∀ (R : Res) (u : World), Own (Sep (BO bx MO) R) w u → u.heap[bx]? = some (.cells #[.int .i64 5, .int .i64 (N : Int), .int .i64 2, .int .i64 0, .int .i64 (pg : Int), .int .i64 (c : Int), .int .i64 (n : Int), .int .i64 (1 + (k : Int)), .int .i64 0, .int .i64 0, .int .i64 0, .int .u64 (al : Int), .bool false, .slice none 0 0, .slice none 0 0, .bool false, .int .i64 0, .bool false, .pointer none, .int .i64 0, .int .i64 0, .int .u64 0, .int .u64 0, .int .i64 0, .int .i64 0, .int .i64 0, .int .i64 0, .int .u64 0, .slice none 0 0, .slice none 0 0, .int .i64 0, .int .i64 0] 38 (0, 0)) := fun R u h => by have := Own.boAt h; rw [HMO.out] at this; exact this
    have HMX := hide hMx
    clear hMx
    have hLx : ∀ (R : Res) (u : World), Own (Sep (BO bl LO) R) w u → u.heap[bl]? = some (.cells #[.int .i64 (N : Int), .int .i64 2] 24 (0, 0)) := fun R u h => by have := Own.boAt h; rw [HLO.out] at this; exact this
    have HLX := hide hLx
    clear hLx
    have O4 := hide (O3.out.below (Loc.bo.sep (lA lb)) ((Alike.drewN w3 1).below _))
    clear O3
    have J4 : Hid (BkAt bl LO w3.drew ∧ BkAt bx MO w3.drew) := hide ⟨O4.out.has (R := Sep (BO bx MO) (Sep (AX q (N : Int) 2 p r (s0) N [] 1 rl) Nought)) (by ac_rfl), Own.boAt O4.out⟩
    have hne : Nonempty (Mem (fun u => BkAt bl LO u ∧ BkAt bx MO u)) := ⟨⟨_, J4.out⟩⟩
    have U0 : ∀ u : Mem (fun u => BkAt bl LO u ∧ BkAt bx MO u), u.w'.cell? ⟨bl, 0, none⟩ = some (.int .i64 (N : Int)) := fun u => cell_of_heap (by rw [← HLO.out]; exact u.h.1)
    have U1 : ∀ u : Mem (fun u => BkAt bl LO u ∧ BkAt bx MO u), u.w'.cell? ⟨bl, 1, none⟩ = some (.int .i64 2) := fun u => cell_of_heap (by rw [← HLO.out]; exact u.h.1)
    have X4 : ∀ u : Mem (fun u => BkAt bl LO u ∧ BkAt bx MO u), u.w'.cell? ⟨bx, 4, none⟩ = some (.int .i64 (pg : Int)) := fun u => cell_of_heap (by rw [← HMO.out]; exact u.h.2)
    have X5 : ∀ u : Mem (fun u => BkAt bl LO u ∧ BkAt bx MO u), u.w'.cell? ⟨bx, 5, none⟩ = some (.int .i64 (c : Int)) := fun u => cell_of_heap (by rw [← HMO.out]; exact u.h.2)
    have X6 : ∀ u : Mem (fun u => BkAt bl LO u ∧ BkAt bx MO u), u.w'.cell? ⟨bx, 6, none⟩ = some (.int .i64 (n : Int)) := fun u => cell_of_heap (by rw [← HMO.out]; exact u.h.2)
    have X7 : ∀ u : Mem (fun u => BkAt bl LO u ∧ BkAt bx MO u), u.w'.cell? ⟨bx, 7, none⟩ = some (.int .i64 (1 + (k : Int))) := fun u => cell_of_heap (by rw [← HMO.out]; exact u.h.2)
    have X11 : ∀ u : Mem (fun u => BkAt bl LO u ∧ BkAt bx MO u), u.w'.cell? ⟨bx, 11, none⟩ = some (.int .u64 (al : Int)) := fun u => cell_of_heap (by rw [← HMO.out]; exact u.h.2)
    refine region_start (J := fun u => BkAt bl LO u ∧ BkAt bx MO u) (by kernel_rfl) ?_
    refine stretch (fuel := 4) (by kernel_rfl) (fun _ _ _ _ _ h => h) J4.out [0, 1, 2, 3, 4, 5, 6, 7, 8, 9, 10, 12, 13, 14, 15, 16] (by kernel_rfl) ?_
    simp only [List.filterMap_cons, List.filterMap_nil, List.getElem?_toArray, List.getElem?_cons_zero, List.getElem?_cons_succ]
    show wpQuiet _ _ _ _ [_, _, _, _, _, _, _, _, _, _, _, _, _, _, _, _] _
    repeat (go_big_quiet_step (fail))
    refine wpQuiet_nil ?_
    clear U0 U1 X4 X5 X6 X7 X11
    refine wpAnyJ_writer (i := 11) rfl (by kernel_rfl) (fun K' hK => ?_)
    go_simp
    refine (HNL.out _ (by have hb := O4.out.back; rw [HBL.out] at hb; exact hb)).mono ?_
    rintro e w5 ⟨m, rfl, h1, h2, h3⟩
    have O5 := hide (Own.boNew (Loc.bo.sep (lA lb)) O4.out h1 h2 h3)
    have J5 : Hid (BkAt bl LO w5 ∧ BkAt bx MO w5) := hide ⟨(h3.block _ (lt_of_heap J4.out.1)).trans J4.out.1, (h3.block _ (lt_of_heap J4.out.2)).trans J4.out.2⟩
    refine hK _ _ J5.out ?_
    clear hK K' h1 h2 h3 O4 J4 HNL
    refine wpAnyJ_writer (i := 17) rfl (by kernel_rfl) (fun K' hK => ?_)
    go_simp
    refine (HNG.out _).mono ?_
    rintro e w6 ⟨gg, rfl, h1, h2, h3⟩
    have O6 := hide (Own.boNew (Loc.bo.sep (Loc.bo.sep (lA lb))) O5.out h1 h2 h3)
    have J6 : Hid (BkAt bl LO w6 ∧ BkAt bx MO w6) := hide ⟨(h3.block _ (lt_of_heap J5.out.1)).trans J5.out.1, (h3.block _ (lt_of_heap J5.out.2)).trans J5.out.2⟩
    refine hK _ _ J6.out ?_
    clear hK K' h1 h2 h3 O5 J5 HNG
    refine stretch (fuel := 0) (by kernel_rfl) (fun _ _ _ _ _ h => h) J6.out [18, 19] (by kernel_rfl) ?_
    simp only [List.filterMap_cons, List.filterMap_nil, List.getElem?_toArray, List.getElem?_cons_zero, List.getElem?_cons_succ]
    show wpQuiet _ _ _ _ [_, _] _
    repeat (go_big_quiet_step (fail))
    refine wpQuiet_nil ?_
    refine wpAnyJ_done (by kernel_rfl) ?_
    clear hne J6
    obtain ⟨RB, hRB⟩ : ∃ RB, Sep (BO gg (goneM (N : Int) 2 (pg : Int) (n : Int) ((0 : Nat) : Int))) (Sep (BO bx MO) (Sep (BO bl LO) Nought)) = RB := ⟨_, rfl⟩
    have OS : Hid (Own (Sep (BO m (layM (N : Int) 2 (pg : Int) (n : Int) ((0 : Nat) : Int) (256 * n + c) al st)) (Sep (AX q (N : Int) 2 p r (putN f s0 0) N [] 1 rl) RB)) w w6) := hide (by rw [← hRB]; exact O6.out.cast (by show Sep (BO gg (goneM (N : Int) 2 (pg : Int) (n : Int) 0)) _ = Sep (BO m (layM (N : Int) 2 (pg : Int) (n : Int) 0 (256 * n + c) al st)) (Sep (AX q (N : Int) 2 p r (s0) N [] 1 rl) (Sep (BO gg (goneM (N : Int) 2 (pg : Int) (n : Int) 0)) _)); ac_rfl))
    have lRB : Loc RB := by rw [← hRB]; exact Loc.bo.sep (Loc.bo.sep lb)
    have HRB := hide hRB
    have hXR : ∀ (R : Res) (u : World), Own (Sep R RB) w u → u.heap[bx]? = some (.cells #[.int .i64 5, .int .i64 (N : Int), .int .i64 2, .int .i64 0, .int .i64 (pg : Int), .int .i64 (c : Int), .int .i64 (n : Int), .int .i64 (1 + (k : Int)), .int .i64 0, .int .i64 0, .int .i64 0, .int .u64 (al : Int), .bool false, .slice none 0 0, .slice none 0 0, .bool false, .int .i64 0, .bool false, .pointer none, .int .i64 0, .int .i64 0, .int .u64 0, .int .u64 0, .int .i64 0, .int .i64 0, .int .i64 0, .int .i64 0, .int .u64 0, .slice none 0 0, .slice none 0 0, .int .i64 0, .int .i64 0] 38 (0, 0)) := fun R u h => by
      rw [← hRB] at h
      exact HMX.out _ _ (h.cast (R' := Sep (BO bx MO) (Sep R (Sep (BO gg (goneM (N : Int) 2 (pg : Int) (n : Int) ((0 : Nat) : Int))) (Sep (BO bl LO) Nought)))) (by ac_rfl))
    have HXR := hide hXR
    clear O6 hRB hXR
    go_wp2_with fail
    go_loopw [15] (fun v wr => ∃ i : Nat, i ≤ n + 4 ∧ v = .int .i64 (i : Int) ∧ Hid (Own (Sep (BO m (layM (N : Int) 2 (pg : Int) (n : Int) (i : Int) (256 * n + c) al st)) (Sep (AX q (N : Int) 2 p r (putN f s0 i) N [] 1 rl) RB)) w wr)) (fun v _ => n + 4 - (intOf v).toNat)
    case atStart => exact ⟨0, Nat.zero_le _, rfl, OS⟩
    case round =>
      obtain ⟨i, hi, rfl, hO⟩ := hrel
      clear OS
      have hX := HXR.out _ _ (hO.out.cast (R' := Sep (Sep (BO m (layM (N : Int) 2 (pg : Int) (n : Int) (i : Int) (256 * n + c) al st)) (AX q (N : Int) 2 p r (putN f s0 i) N [] 1 rl)) RB) (by ac_rfl))
      have x4 : wr.cell? ⟨bx, 4, none⟩ = some (.int .i64 (pg : Int)) := cell_of_heap hX
      have x6 : wr.cell? ⟨bx, 6, none⟩ = some (.int .i64 (n : Int)) := cell_of_heap hX
      have hn60 : n ≤ 60 := by omega
      by_cases hlt : i < n + 4
      · have d1 : decide ((i : Int) < (n : Int) + 4) = true := by simp; omega
        clear hX
        have HRD := hide (HR0.out i (by omega))
        have HILT := hide hlt
        clear hlt
        go_wp2_with fail
        refine (readA (ArW.of (hO.out.cast BO.swap)) (by rw [putN_len]; exact HL0.out) (pg : Int) _ _ HRD.out).mono ?_
        rintro e w7 ⟨rfl, b7⟩
        have O7 := hide ((hO.out.below (Loc.bo.sep (lA lRB)) b7).below (Loc.bo.sep (lA lRB)) (grown1 w7 (.cells #[.int .i64 0, .int .i64 0, .int .i64 0, .int .i64 0, .int .i64 0, .int .u64 0, .int .u64 0] 45)))
        clear b7 hO x4 x6 d1
        unfold spanV spanC Rec.Sp.zero
        go_wp2_with fail
        generalize w7.alloc (.cells #[.int .i64 0, .int .i64 0, .int .i64 0, .int .i64 0, .int .i64 0, .int .u64 0, .int .u64 0] 45) = w8 at *
        have HD := hide (layDone w8 m (N : Int) 2 (pg : Int) n i (256 * n + c) al st (by omega) (Own.boAt O7.out))
        rw [decide_eq_false (show ¬ i = n + 4 by have := HILT.out; omega)] at HD
        refine HD.out.mono ?_
        rintro e w9 ⟨rfl, n9, rfl⟩
        have O9 := hide (O7.out.below (Loc.bo.sep (lA lRB)) ((Alike.drewN w8 n9).below _))
        clear HD O7
        generalize w8.drewN n9 = w9 at *
        go_wp2_with fail
        have HG := hide (layGo lRB HM.out pg n i (256 * n + c) al st hn1 (by omega) HILT.out (by rw [putN_len]; exact HL0.out) (by omega) halb hstb O9.out)
        rw [HF.out] at HG
        refine HG.out.mono ?_
        rintro e w10 ⟨rfl, o10⟩
        have O10 := hide o10
        clear HG o10 O9
        obtain ⟨va, vb, vc, hd⟩ := put_did (putN f s0 i) (f i).1 (f i).2
        rw [hd]
        have hfd := didField0
        go_wp2
        clear hfd
        have hilt := HILT.out
        go_roundw
        case rel => exact ⟨i + 1, by omega, by go_num, O10⟩
        case measure => simp [intOf]; omega
      · have hin : i = n + 4 := by omega
        subst hin
        have d1 : decide (((n + 4 : Nat) : Int) < (n : Int) + 4) = false := by simp
        have x5 : wr.cell? ⟨bx, 5, none⟩ = some (.int .i64 (c : Int)) := cell_of_heap hX
        have x7 : wr.cell? ⟨bx, 7, none⟩ = some (.int .i64 (1 + (k : Int))) := cell_of_heap hX
        have x11 : wr.cell? ⟨bx, 11, none⟩ = some (.int .u64 (al : Int)) := cell_of_heap hX
        clear hX
        rw [HS1.out] at hO
        go_upto_region 15 with fail
        obtain ⟨WO, hWO⟩ : ∃ WO : Obj, WO = (.cells #[.int .i64 (pg : Int), .int .i64 (n : Int), .int .i64 (c : Int), .int .i64 (1 + (k : Int)), .int .i64 2, .int .u64 (al : Int), .int .u64 0] 45 (0, 0)) := ⟨_, rfl⟩
        obtain ⟨RR, hRR⟩ : ∃ RR, Sep (BO wr.heap.size WO) (Sep (BO m (layM (N : Int) 2 (pg : Int) (n : Int) ((n + 4 : Nat) : Int) (256 * n + c) al st)) RB) = RR := ⟨_, rfl⟩
        have lRR : Loc RR := by rw [← hRR]; exact Loc.bo.sep (Loc.bo.sep lRB)
        have Ow : Hid (Own (Sep (AX q (N : Int) 2 p r (s1) N [] 1 rl) RR) w (wr.alloc (.cells #[.int .i64 (pg : Int), .int .i64 (n : Int), .int .i64 (c : Int), .int .i64 (1 + (k : Int)), .int .i64 2, .int .u64 (al : Int), .int .u64 0] 45))) := hide (by rw [← hRR]; exact (Own.boNew (m := wr.heap.size) (o := WO) (Loc.bo.sep (lA lRB)) hO.out (by rw [hWO]; exact heap_alloc_at wr _) (Nat.le_refl _) (grown1 wr _)).cast (by ac_rfl))
        clear x4 x5 x6 x7 x11 d1 hO
        generalize wr.alloc (.cells #[.int .i64 (pg : Int), .int .i64 (n : Int), .int .i64 (c : Int), .int .i64 (1 + (k : Int)), .int .i64 2, .int .u64 (al : Int), .int .u64 0] 45) = w7 at *
        generalize wr.heap.size = b18 at *
        have hJJ : ∀ u, Own (Sep (AX q (N : Int) 2 p r (s1) N [] 1 rl) RR) w u → BkAt bl LO u ∧ BkAt bx MO u ∧ BkAt b18 WO u := fun u h => by
          rw [← hRR, ← HRB.out] at h
          exact ⟨h.has (R := Sep (AX q (N : Int) 2 p r (s1) N [] 1 rl) (Sep (BO b18 WO) (Sep (BO m (layM (N : Int) 2 (pg : Int) (n : Int) ((n + 4 : Nat) : Int) (256 * n + c) al st)) (Sep (BO gg (goneM (N : Int) 2 (pg : Int) (n : Int) ((0 : Nat) : Int))) (Sep (BO bx MO) Nought))))) (by ac_rfl), h.has (R := Sep (AX q (N : Int) 2 p r (s1) N [] 1 rl) (Sep (BO b18 WO) (Sep (BO m (layM (N : Int) 2 (pg : Int) (n : Int) ((n + 4 : Nat) : Int) (256 * n + c) al st)) (Sep (BO gg (goneM (N : Int) 2 (pg : Int) (n : Int) ((0 : Nat) : Int))) (Sep (BO bl LO) Nought))))) (by ac_rfl), h.has (R := Sep (AX q (N : Int) 2 p r (s1) N [] 1 rl) (Sep (BO m (layM (N : Int) 2 (pg : Int) (n : Int) ((n + 4 : Nat) : Int) (256 * n + c) al st)) (Sep (BO gg (goneM (N : Int) 2 (pg : Int) (n : Int) ((0 : Nat) : Int))) (Sep (BO bx MO) (Sep (BO bl LO) Nought))))) (by ac_rfl)⟩
        have HJJ := hide hJJ
        have hLM : ∀ u, Own (Sep (AX q (N : Int) 2 p r (s1) N [] 1 rl) RR) w u → u.heap[m]? = some (layM (N : Int) 2 (pg : Int) (n : Int) ((n + 4 : Nat) : Int) (256 * n + c) al st) := fun u h => by
          rw [← hRR] at h
          exact h.has (R := Sep (AX q (N : Int) 2 p r (s1) N [] 1 rl) (Sep (BO b18 WO) RB)) (by ac_rfl)
        have HLM := hide hLM
        have HWO := hide hWO
        have HRR := hide hRR
        clear hJJ hLM hWO hRR
        go_cut [126] from 105 to 126 (fun v wc => v = .bool false ∧ Hid (Own (Sep (AX q (N : Int) 2 p r (s1) N [] 1 rl) RR) w wc))
        case first =>
          have O8 := hide (Ow.out.below (lA lRR) ((Alike.drewN w7 1).below _))
          clear Ow
          have J8 : Hid (BkAt bl LO w7.drew ∧ BkAt bx MO w7.drew ∧ BkAt b18 WO w7.drew) := hide (HJJ.out _ O8.out)
          have hne : Nonempty (Mem (fun u => BkAt bl LO u ∧ BkAt bx MO u ∧ BkAt b18 WO u)) := ⟨⟨_, J8.out⟩⟩
          have U0 : ∀ u : Mem (fun u => BkAt bl LO u ∧ BkAt bx MO u ∧ BkAt b18 WO u), u.w'.cell? ⟨bl, 0, none⟩ = some (.int .i64 (N : Int)) := fun u => cell_of_heap (by rw [← HLO.out]; exact u.h.1)
          have U1 : ∀ u : Mem (fun u => BkAt bl LO u ∧ BkAt bx MO u ∧ BkAt b18 WO u), u.w'.cell? ⟨bl, 1, none⟩ = some (.int .i64 2) := fun u => cell_of_heap (by rw [← HLO.out]; exact u.h.1)
          have X4 : ∀ u : Mem (fun u => BkAt bl LO u ∧ BkAt bx MO u ∧ BkAt b18 WO u), u.w'.cell? ⟨bx, 4, none⟩ = some (.int .i64 (pg : Int)) := fun u => cell_of_heap (by rw [← HMO.out]; exact u.h.2.1)
          have Y0 : ∀ u : Mem (fun u => BkAt bl LO u ∧ BkAt bx MO u ∧ BkAt b18 WO u), u.w'.cell? ⟨b18, 0, none⟩ = some (.int .i64 (pg : Int)) := fun u => cell_of_heap (by rw [← HWO.out]; exact u.h.2.2)
          have Y1 : ∀ u : Mem (fun u => BkAt bl LO u ∧ BkAt bx MO u ∧ BkAt b18 WO u), u.w'.cell? ⟨b18, 1, none⟩ = some (.int .i64 (n : Int)) := fun u => cell_of_heap (by rw [← HWO.out]; exact u.h.2.2)
          have Y2 : ∀ u : Mem (fun u => BkAt bl LO u ∧ BkAt bx MO u ∧ BkAt b18 WO u), u.w'.cell? ⟨b18, 2, none⟩ = some (.int .i64 (c : Int)) := fun u => cell_of_heap (by rw [← HWO.out]; exact u.h.2.2)
          have Y3 : ∀ u : Mem (fun u => BkAt bl LO u ∧ BkAt bx MO u ∧ BkAt b18 WO u), u.w'.cell? ⟨b18, 3, none⟩ = some (.int .i64 (1 + (k : Int))) := fun u => cell_of_heap (by rw [← HWO.out]; exact u.h.2.2)
          have Y4 : ∀ u : Mem (fun u => BkAt bl LO u ∧ BkAt bx MO u ∧ BkAt b18 WO u), u.w'.cell? ⟨b18, 4, none⟩ = some (.int .i64 2) := fun u => cell_of_heap (by rw [← HWO.out]; exact u.h.2.2)
          have Y5 : ∀ u : Mem (fun u => BkAt bl LO u ∧ BkAt bx MO u ∧ BkAt b18 WO u), u.w'.cell? ⟨b18, 5, none⟩ = some (.int .u64 (al : Int)) := fun u => cell_of_heap (by rw [← HWO.out]; exact u.h.2.2)
          have Y6 : ∀ u : Mem (fun u => BkAt bl LO u ∧ BkAt bx MO u ∧ BkAt b18 WO u), u.w'.cell? ⟨b18, 6, none⟩ = some (.int .u64 0) := fun u => cell_of_heap (by rw [← HWO.out]; exact u.h.2.2)
          refine region_start (J := fun u => BkAt bl LO u ∧ BkAt bx MO u ∧ BkAt b18 WO u) (by kernel_rfl) ?_
          refine stretch (fuel := 21) (by kernel_rfl) (fun _ _ _ _ _ h => h) J8.out [0] (by kernel_rfl) ?_
          simp only [List.filterMap_cons, List.filterMap_nil, List.getElem?_toArray, List.getElem?_cons_zero]
          show wpQuiet _ _ _ _ [_] _
          repeat (go_big_quiet_step (fail))
          refine wpQuiet_nil ?_
          refine wpAnyJ_writer (i := 1) rfl (by kernel_rfl) (fun K' hK => ?_)
          go_simp
          have HD := hide (layDone _ m (N : Int) 2 (pg : Int) n (n + 4) (256 * n + c) al st (by omega) (HLM.out _ O8.out))
          rw [decide_eq_true rfl] at HD
          refine HD.out.mono ?_
          rintro e w9 ⟨rfl, n9, rfl⟩
          have O9 := hide (O8.out.below (lA lRR) ((Alike.drewN _ n9).below _))
          refine hK _ _ (HJJ.out _ O9.out) ?_
          clear hK K' HD O8 J8
          generalize World.drewN _ n9 = w9 at *
          have J9 := hide (HJJ.out _ O9.out)
          refine stretch (fuel := 16) (by kernel_rfl) (fun _ _ _ _ _ h => h) J9.out [2, 3, 4, 6] (by kernel_rfl) ?_
          simp only [List.filterMap_cons, List.filterMap_nil, List.getElem?_toArray, List.getElem?_cons_zero, List.getElem?_cons_succ]
          show wpQuiet _ _ _ _ [_, _, _, _] _
          repeat (go_big_quiet_step (fail))
          refine wpQuiet_nil ?_
          refine wpAnyJ_two (i := 5) (j := 7) rfl rfl (by kernel_rfl) (fun K' hK => ?_) (fun K' hK => ?_)
          · go_simp
            refine (listA (ArW.of O9.out) HL1.out N rfl (by omega) _ HLI.out).mono ?_
            rintro e w10 ⟨v1, rfl, hv1, b10⟩
            have O10 := hide (O9.out.below (lA lRR) b10)
            refine hK _ _ (HJJ.out _ O10.out) ?_
            clear hK K' b10 O9 J9
            refine wpAnyJ_writer (i := 7) rfl (by kernel_rfl) (fun K' hK => ?_)
            go_simp
            have hv2 := spans_one w10 pg n c (1 + (k : Int)) al
            have hv1' := hv1.below (grown1 w10 (.cells #[.int .i64 (pg : Int), .int .i64 (n : Int), .int .i64 (c : Int), .int .i64 (1 + (k : Int)), .int .i64 2, .int .u64 (al : Int), .int .u64 0] 45))
            have O11 := hide (O10.out.below (lA lRR) (grown1 w10 (.cells #[.int .i64 (pg : Int), .int .i64 (n : Int), .int .i64 (c : Int), .int .i64 (1 + (k : Int)), .int .i64 2, .int .u64 (al : Int), .int .u64 0] 45)))
            refine hK _ _ (HJJ.out _ O11.out) ?_
            clear hK K' O10 hv1
            generalize w10.alloc (.cells #[.int .i64 (pg : Int), .int .i64 (n : Int), .int .i64 (c : Int), .int .i64 (1 + (k : Int)), .int .i64 2, .int .u64 (al : Int), .int .u64 0] 45) = w11 at *
            generalize w10.heap.size = g2 at *
            refine wpAnyJ_writer (i := 8) rfl (by kernel_rfl) (fun K' hK => ?_)
            go_simp
            refine (sameSpans _ _ _ _ hv1' hv2 (by simp)).mono ?_
            rintro e w12 ⟨rfl, n12, rfl⟩
            have O12 := hide (O11.out.below (lA lRR) ((Alike.drewN _ n12).below _))
            refine hK _ _ (HJJ.out _ O12.out) ?_
            clear hK K' O11 hv1' hv2
            generalize w11.drewN n12 = w12 at *
            have J12 := hide (HJJ.out _ O12.out)
            refine stretch (fuel := 4) (by kernel_rfl) (fun _ _ _ _ _ h => h) J12.out [9, 10, 11, 12, 13, 15, 16, 17, 18] (by kernel_rfl) ?_
            simp only [List.filterMap_cons, List.filterMap_nil, List.getElem?_toArray, List.getElem?_cons_zero, List.getElem?_cons_succ]
            show wpQuiet _ _ _ _ [_, _, _, _, _, _, _, _, _] _
            repeat (go_big_quiet_step (fail))
            refine wpQuiet_nil ?_
            clear U0 U1 X4 Y0 Y1 Y2 Y3 Y4 Y5 Y6
            refine wpAnyJ_writer (i := 14) rfl (by kernel_rfl) (fun K' hK => ?_)
            refine wp_load_row 38 _ rfl bx rfl 38 #[.int .i64 5, .int .i64 (N : Int), .int .i64 2, .int .i64 0, .int .i64 (pg : Int), .int .i64 (c : Int), .int .i64 (n : Int), .int .i64 (1 + (k : Int)), .int .i64 0, .int .i64 0, .int .i64 0, .int .u64 (al : Int), .bool false, .slice none 0 0, .slice none 0 0, .bool false, .int .i64 0, .bool false, .pointer none, .int .i64 0, .int .i64 0, .int .u64 0, .int .u64 0, .int .i64 0, .int .i64 0, .int .i64 0, .int .i64 0, .int .u64 0, .slice none 0 0, .slice none 0 0, .int .i64 0, .int .i64 0] (0, 0) _ (by have := J12.out.2.1; unfold BkAt at this; rw [HMO.out] at this; exact this) Tryd.underlying38 rfl (by kernel_rfl) ?_
            refine hK _ _ J12.out ?_
            clear hK K'
            refine wpAnyJ_writer (i := 19) rfl (by kernel_rfl) (fun K' hK => ?_)
            go_simp
            rw [show ((pg : Int) + 1) = ((pg + 1 : Nat) : Int) from by omega]
            refine (lawIndex lRR N 2 O12.out HM.out HL1.out pg n hpn (c : Int) (1 + (k : Int)) al (pg + 1) HIX.out).mono ?_
            rintro e w13 ⟨rfl, o13⟩
            have O13 := hide o13
            have J13 := hide (HJJ.out _ O13.out)
            refine hK _ _ J13.out ?_
            clear hK K' o13 O12 J12
            refine stretch (fuel := 0) (by kernel_rfl) (fun _ _ _ _ _ h => h) J13.out [20, 21] (by kernel_rfl) ?_
            simp only [List.filterMap_cons, List.filterMap_nil, List.getElem?_toArray, List.getElem?_cons_zero, List.getElem?_cons_succ]
            show wpQuiet _ _ _ _ [_, _] _
            repeat (go_big_quiet_step (fail))
            refine wpQuiet_nil ?_
            refine wpAnyJ_done (by kernel_rfl) ?_
            clear hne J13
            go_wp2
            go_meet
            exact ⟨rfl, O13⟩
          · go_simp
            have hv2' := spans_one w9 pg n c (1 + (k : Int)) al
            have O10 := hide (O9.out.below (lA lRR) (grown1 w9 (.cells #[.int .i64 (pg : Int), .int .i64 (n : Int), .int .i64 (c : Int), .int .i64 (1 + (k : Int)), .int .i64 2, .int .u64 (al : Int), .int .u64 0] 45)))
            refine hK _ _ (HJJ.out _ O10.out) ?_
            clear hK K' O9 J9
            generalize w9.alloc (.cells #[.int .i64 (pg : Int), .int .i64 (n : Int), .int .i64 (c : Int), .int .i64 (1 + (k : Int)), .int .i64 2, .int .u64 (al : Int), .int .u64 0] 45) = w10 at *
            generalize w9.heap.size = g2 at *
            refine wpAnyJ_writer (i := 5) rfl (by kernel_rfl) (fun K' hK => ?_)
            go_simp
            refine (listA (ArW.of O10.out) HL1.out N rfl (by omega) _ HLI.out).mono ?_
            rintro e w11 ⟨v1, rfl, hv1', b11⟩
            have hv2 := hv2'.below b11
            have O11 := hide (O10.out.below (lA lRR) b11)
            refine hK _ _ (HJJ.out _ O11.out) ?_
            clear hK K' b11 O10 hv2'
            refine wpAnyJ_writer (i := 8) rfl (by kernel_rfl) (fun K' hK => ?_)
            go_simp
            refine (sameSpans _ _ _ _ hv1' hv2 (by simp)).mono ?_
            rintro e w12 ⟨rfl, n12, rfl⟩
            have O12 := hide (O11.out.below (lA lRR) ((Alike.drewN _ n12).below _))
            refine hK _ _ (HJJ.out _ O12.out) ?_
            clear hK K' O11 hv1' hv2
            generalize w11.drewN n12 = w12 at *
            have J12 := hide (HJJ.out _ O12.out)
            refine stretch (fuel := 4) (by kernel_rfl) (fun _ _ _ _ _ h => h) J12.out [9, 10, 11, 12, 13, 15, 16, 17, 18] (by kernel_rfl) ?_
            simp only [List.filterMap_cons, List.filterMap_nil, List.getElem?_toArray, List.getElem?_cons_zero, List.getElem?_cons_succ]
            show wpQuiet _ _ _ _ [_, _, _, _, _, _, _, _, _] _
            repeat (go_big_quiet_step (fail))
            refine wpQuiet_nil ?_
            clear U0 U1 X4 Y0 Y1 Y2 Y3 Y4 Y5 Y6
            refine wpAnyJ_writer (i := 14) rfl (by kernel_rfl) (fun K' hK => ?_)
            refine wp_load_row 38 _ rfl bx rfl 38 #[.int .i64 5, .int .i64 (N : Int), .int .i64 2, .int .i64 0, .int .i64 (pg : Int), .int .i64 (c : Int), .int .i64 (n : Int), .int .i64 (1 + (k : Int)), .int .i64 0, .int .i64 0, .int .i64 0, .int .u64 (al : Int), .bool false, .slice none 0 0, .slice none 0 0, .bool false, .int .i64 0, .bool false, .pointer none, .int .i64 0, .int .i64 0, .int .u64 0, .int .u64 0, .int .i64 0, .int .i64 0, .int .i64 0, .int .i64 0, .int .u64 0, .slice none 0 0, .slice none 0 0, .int .i64 0, .int .i64 0] (0, 0) _ (by have := J12.out.2.1; unfold BkAt at this; rw [HMO.out] at this; exact this) Tryd.underlying38 rfl (by kernel_rfl) ?_
            refine hK _ _ J12.out ?_
            clear hK K'
            refine wpAnyJ_writer (i := 19) rfl (by kernel_rfl) (fun K' hK => ?_)
            go_simp
            rw [show ((pg : Int) + 1) = ((pg + 1 : Nat) : Int) from by omega]
            refine (lawIndex lRR N 2 O12.out HM.out HL1.out pg n hpn (c : Int) (1 + (k : Int)) al (pg + 1) HIX.out).mono ?_
            rintro e w13 ⟨rfl, o13⟩
            have O13 := hide o13
            have J13 := hide (HJJ.out _ O13.out)
            refine hK _ _ J13.out ?_
            clear hK K' o13 O12 J12
            refine stretch (fuel := 0) (by kernel_rfl) (fun _ _ _ _ _ h => h) J13.out [20, 21] (by kernel_rfl) ?_
            simp only [List.filterMap_cons, List.filterMap_nil, List.getElem?_toArray, List.getElem?_cons_zero, List.getElem?_cons_succ]
            show wpQuiet _ _ _ _ [_, _] _
            repeat (go_big_quiet_step (fail))
            refine wpQuiet_nil ?_
            refine wpAnyJ_done (by kernel_rfl) ?_
            clear hne J13
            go_wp2
            go_meet
            exact ⟨rfl, O13⟩
        case rest =>
          obtain ⟨rfl, O8⟩ := hcut
          obtain ⟨RB2, hRB2⟩ : ∃ RB2, Sep (BO m (layM (N : Int) 2 (pg : Int) (n : Int) ((n + 4 : Nat) : Int) (256 * n + c) al st)) (Sep (BO bx MO) (Sep (BO bl LO) Nought)) = RB2 := ⟨_, rfl⟩
          have lRB2 : Loc RB2 := by rw [← hRB2]; exact Loc.bo.sep (Loc.bo.sep lb)
          obtain ⟨g, hg⟩ : ∃ g, goneAt (N : Int) 2 pg n = g := ⟨_, rfl⟩
          have HG := hide hg
          rw [hg] at HG0 HGL HGX
          have OT : Hid (Own (Sep (BO gg (goneM (N : Int) 2 (pg : Int) (n : Int) ((0 : Nat) : Int))) (Sep (AX q (N : Int) 2 p r (putN g s1 0) N [] 1 rl) RB2)) w wc) := hide (by
            have h := O8.out
            rw [← HRR.out, ← HRB.out] at h
            rw [← hRB2]
            exact (h.cast (R' := Sep (BO b18 WO) (Sep (BO gg (goneM (N : Int) 2 (pg : Int) (n : Int) ((0 : Nat) : Int))) (Sep (AX q (N : Int) 2 p r (s1) N [] 1 rl) (Sep (BO m (layM (N : Int) 2 (pg : Int) (n : Int) ((n + 4 : Nat) : Int) (256 * n + c) al st)) (Sep (BO bx MO) (Sep (BO bl LO) Nought)))))) (by ac_rfl)).drop)
          have hXR2 : ∀ (R : Res) (u : World), Own (Sep R RB2) w u → u.heap[bx]? = some (.cells #[.int .i64 5, .int .i64 (N : Int), .int .i64 2, .int .i64 0, .int .i64 (pg : Int), .int .i64 (c : Int), .int .i64 (n : Int), .int .i64 (1 + (k : Int)), .int .i64 0, .int .i64 0, .int .i64 0, .int .u64 (al : Int), .bool false, .slice none 0 0, .slice none 0 0, .bool false, .int .i64 0, .bool false, .pointer none, .int .i64 0, .int .i64 0, .int .u64 0, .int .u64 0, .int .i64 0, .int .i64 0, .int .i64 0, .int .i64 0, .int .u64 0, .slice none 0 0, .slice none 0 0, .int .i64 0, .int .i64 0] 38 (0, 0)) ∧ u.heap[bl]? = some (.cells #[.int .i64 (N : Int), .int .i64 2] 24 (0, 0)) := fun R u h => by
            rw [← hRB2] at h
            exact ⟨HMX.out _ _ (h.cast (R' := Sep (BO bx MO) (Sep R (Sep (BO m (layM (N : Int) 2 (pg : Int) (n : Int) ((n + 4 : Nat) : Int) (256 * n + c) al st)) (Sep (BO bl LO) Nought)))) (by ac_rfl)), HLX.out _ _ (h.cast (R' := Sep (BO bl LO) (Sep R (Sep (BO m (layM (N : Int) 2 (pg : Int) (n : Int) ((n + 4 : Nat) : Int) (256 * n + c) al st)) (Sep (BO bx MO) Nought)))) (by ac_rfl))⟩
          have HXR2 := hide hXR2
          clear O8 hRB2 hXR2 hg HJJ HLM HWO HRR HXR HRB
          go_wp2_with fail
          go_loopw [19] (fun v wr => ∃ i : Nat, i ≤ n + 1 ∧ v = .int .i64 (i : Int) ∧ Hid (Own (Sep (BO gg (goneM (N : Int) 2 (pg : Int) (n : Int) (i : Int))) (Sep (AX q (N : Int) 2 p r (putN g s1 i) N [] 1 rl) RB2)) w wr)) (fun v _ => n + 1 - (intOf v).toNat)
          case atStart => exact ⟨0, Nat.zero_le _, rfl, OT⟩
          case round =>
            obtain ⟨i, hi, rfl, hO⟩ := hrel
            clear OT
            have hX := HXR2.out _ _ (hO.out.cast (R' := Sep (Sep (BO gg (goneM (N : Int) 2 (pg : Int) (n : Int) (i : Int))) (AX q (N : Int) 2 p r (putN g s1 i) N [] 1 rl)) RB2) (by ac_rfl))
            have x4 : wr.cell? ⟨bx, 4, none⟩ = some (.int .i64 (pg : Int)) := cell_of_heap hX.1
            have x6 : wr.cell? ⟨bx, 6, none⟩ = some (.int .i64 (n : Int)) := cell_of_heap hX.1
            by_cases hlt : i < n + 1
            · have d1 : decide ((i : Int) < (n : Int) + 1) = true := by simp; omega
              clear hX
              have HRD := hide (HG0.out i (by omega))
              have HILT := hide hlt
              clear hlt
              go_wp2_with fail
              refine (readA (ArW.of (hO.out.cast BO.swap)) (by rw [putN_len]; exact HL1.out) (pg : Int) _ _ HRD.out).mono ?_
              rintro e w7 ⟨rfl, b7⟩
              have O7 := hide ((hO.out.below (Loc.bo.sep (lA lRB2)) b7).below (Loc.bo.sep (lA lRB2)) (grown1 w7 (.cells #[.int .i64 (pg : Int), .int .i64 (n : Int), .int .i64 (c : Int), .int .i64 (1 + (k : Int)), .int .i64 2, .int .u64 (al : Int), .int .u64 ((0 : Nat) : Int)] 45)))
              clear b7 hO x4 x6 d1
              unfold spanV spanC wantSp
              go_wp2_with fail
              generalize World.alloc w7 _ = w8 at *
              have HD := hide (goneDone w8 gg (N : Int) 2 (pg : Int) n i (by omega) (Own.boAt O7.out))
              rw [decide_eq_false (show ¬ i = n + 1 by have := HILT.out; omega)] at HD
              refine HD.out.mono ?_
              rintro e w9 ⟨rfl, n9, rfl⟩
              have O9 := hide (O7.out.below (Loc.bo.sep (lA lRB2)) ((Alike.drewN w8 n9).below _))
              clear HD O7
              generalize w8.drewN n9 = w9 at *
              go_wp2_with fail
              have HGO := hide (goneGo lRB2 HM.out pg n i hn1 (by omega) HILT.out (by rw [putN_len]; exact HL1.out) O9.out)
              rw [HG.out] at HGO
              refine HGO.out.mono ?_
              rintro e w10 ⟨rfl, o10⟩
              have O10 := hide o10
              clear HGO o10 O9
              obtain ⟨va, vb, vc, hd⟩ := put_did (putN g s1 i) (g i).1 (g i).2
              rw [hd]
              have hfd := didField0
              go_wp2
              clear hfd
              have hilt := HILT.out
              go_roundw
              case rel =>
                (repeat apply Exists.intro)
                exact ⟨⟨i + 1, by omega, by go_num, O10⟩, rfl⟩
              case measure => simp [intOf]; omega
            · have hin : i = n + 1 := by omega
              subst hin
              have d1 : decide (((n + 1 : Nat) : Int) < (n : Int) + 1) = false := by simp
              clear hX
              go_wp2_with fail
              have HD := hide (goneDone wr gg (N : Int) 2 (pg : Int) n (n + 1) (by omega) (Own.boAt hO.out))
              rw [decide_eq_true rfl] at HD
              refine HD.out.mono ?_
              rintro e w9 ⟨rfl, n9, rfl⟩
              have O9 := hide (hO.out.below (Loc.bo.sep (lA lRB2)) ((Alike.drewN wr n9).below _))
              clear HD hO x4 x6
              generalize wr.drewN n9 = w9 at *
              go_wp2_with fail
              refine (listA (ArW.of (O9.out.cast BO.swap)) (by rw [putN_len]; exact HL1.out) N rfl (by omega) _ HGL.out).mono ?_
              rintro e w10 ⟨v1, rfl, hv1, b10⟩
              have O10 := hide (O9.out.below (Loc.bo.sep (lA lRB2)) b10)
              clear b10 O9
              obtain ⟨la, lc, rfl, _⟩ := hv1
              rw [List.length_nil]
              have hX := HXR2.out _ _ (O10.out.cast (R' := Sep (Sep (BO gg (goneM (N : Int) 2 (pg : Int) (n : Int) ((n + 1 : Nat) : Int))) (AX q (N : Int) 2 p r (putN g s1 (n + 1)) N [] 1 rl)) RB2) (by ac_rfl))
              have hxx := hX.1
              have c0 : w10.cell? ⟨bl, 0, none⟩ = some (.int .i64 (N : Int)) := cell_of_heap hX.2
              have c1 : w10.cell? ⟨bl, 1, none⟩ = some (.int .i64 2) := cell_of_heap hX.2
              clear hX
              go_wp2_with (first | fail | (refine wpList_load_row_w rfl 38 _ rfl bx rfl 38 #[.int .i64 5, .int .i64 (N : Int), .int .i64 2, .int .i64 0, .int .i64 (pg : Int), .int .i64 (c : Int), .int .i64 (n : Int), .int .i64 (1 + (k : Int)), .int .i64 0, .int .i64 0, .int .i64 0, .int .u64 (al : Int), .bool false, .slice none 0 0, .slice none 0 0, .bool false, .int .i64 0, .bool false, .pointer none, .int .i64 0, .int .i64 0, .int .u64 0, .int .u64 0, .int .i64 0, .int .i64 0, .int .i64 0, .int .i64 0, .int .u64 0, .slice none 0 0, .slice none 0 0, .int .i64 0, .int .i64 0] (0, 0) _ hxx Tryd.underlying38 rfl (by kernel_rfl) ?_))
              refine (lawIndex (Loc.bo.sep lRB2) N 2 (O10.out.cast (R' := Sep (AX q (N : Int) 2 p r (putN g s1 (n + 1)) N [] 1 rl) (Sep (BO gg (goneM (N : Int) 2 (pg : Int) (n : Int) ((n + 1 : Nat) : Int))) RB2)) (by ac_rfl)) HM.out (by rw [putN_len]; exact HL1.out) pg n hpn (c : Int) (1 + (k : Int)) al 0 HGX.out).mono ?_
              rintro e w11 ⟨rfl, o11⟩
              have HB11 := hide o11.back
              clear o11 O10 c0 c1 hxx
              go_wp2_with fail
              refine (HAW.out _ (by have hb := HB11.out; rw [HBL.out] at hb; exact hb)).mono ?_
              rintro e w12 ⟨rfl, b12⟩
              have HB12 := hide (HB11.out.trans (b12.mono HB11.out.size))
              clear b12 HB11
              go_wp2
              go_ret
              exact ⟨rfl, HB12.out⟩

set_option maxRecDepth 100000 in
theorem lifted (os : Os) (started : os.Started) (H : Type) (enc : TypeId × Value → H) :
    ReturnsInHanded {} Tryd.checked os 3 .any (fun w args => (Rows.recordBackSpec.pre enc Tryd.prog Tryd.f3 [] false w args ∧ laidMetH Tryd.prog laidK w) ∧ sizedMet enc Tryd.prog Tryd.f3 (OpenSpec.ofChange Rows.recordBackSpec) false w args)
      (Rows.recordBackSpec.post enc Tryd.prog Tryd.f3 false true false false) := by
  refine returnsInHanded_of_change_and (C := Tryd.checked) (X := fun w _ => laidMetH Tryd.prog laidK w) (fun _ _ _ hh h => h.of_heap hh) own started (by kernel_rfl) Tryd.func3
    (ChangeSpec.witness_shaped (enc := enc) (C := Tryd.checked) (os := os) (X := fun w _ => laidMetH Tryd.prog laidK w) false (World.doorLaid Tryd.prog 400 os) #[.int .u8 0, .int .u8 0, .int .u8 0, .int .u64 0] 8 rfl (World.shaped_of_RefB (by kernel_rfl) (by kernel_rfl)) (by kernel_rfl) (by kernel_rfl) (by kernel_rfl) (door_met os _)) ?_
  intro W base args ds gs before hval0 hW _ _ hL _
  have hval : ∀ (j : Nat) t v, Tryd.f3.params[j]? = some t → args[j]? = some v → Value.okWide Tryd.prog W .any base t v := hval0
  have hW' := hW
  obtain ⟨p, q, hA0, hV, rfl, hfz, hnd⟩ := hW
  have hA : DataW.TrodAll enc Tryd.prog W 0 (fun _ => true) true Tryd.f3.params.toList args.toList ds p := hA0
  rw [Tryd.params3] at hA hval
  obtain ⟨v0, vs0, d0, ds0, p0, q0, hargs, rfl, rfl, h0, r0⟩ := trodAll_cons hA
  obtain ⟨v1, vs1, d1, ds1, p1, q1, rfl, rfl, rfl, h1, r1⟩ := trodAll_cons r0
  obtain ⟨v2, vs2, d2, ds2, p2, q2, rfl, rfl, rfl, h2, r2⟩ := trodAll_cons r1
  obtain ⟨v3, vs3, d3, ds3, p3, q3, rfl, rfl, rfl, h3, r3⟩ := trodAll_cons r2
  obtain ⟨rfl, rfl, rfl⟩ := trodAll_nil r3
  obtain rfl : args = #[v0, v1, v2, v3] := by cases args; simp_all
  obtain ⟨rfl, rfl⟩ := trodVars_none hV
  obtain ⟨a0, rfl, rfl, rfl, w0⟩ := open_int Tryd.underlying5 (hval 0 5 v0 rfl rfl) h0
  obtain ⟨a1, rfl, rfl, rfl, w1⟩ := open_int Tryd.underlying5 (hval 1 5 v1 rfl rfl) h1
  obtain ⟨a2, rfl, rfl, rfl, w2⟩ := open_int Tryd.underlying5 (hval 2 5 v2 rfl rfl) h2
  obtain ⟨a3, rfl, rfl, rfl, w3⟩ := open_int Tryd.underlying22 (hval 3 22 v3 rfl rfl) h3
  clear hA0 hval0
  obtain ⟨x0, hx0, rfl⟩ := u8_nat w0
  obtain ⟨x1, hx1, rfl⟩ := u8_nat w1
  obtain ⟨x2, hx2, rfl⟩ := u8_nat w2
  obtain ⟨x3, hx3, rfl⟩ := u64_nat w3
  refine (walk x0 hx0 x1 hx1 x2 hx2 x3 hx3 W (tab_of_laid hL)).mono fun e W' ⟨he, bel⟩ => ?_
  subst he
  exact ⟨_, rfl, _, _, _, [], _, [], hW', trodAll_mk1 (shut_bool Tryd.underlying4 _), (trodAll_cons_mk (shut_int Tryd.underlying5 w0) (trodAll_cons_mk (shut_int Tryd.underlying5 w1) (trodAll_cons_mk (shut_int Tryd.underlying5 w2) (trodAll_cons_mk (shut_int Tryd.underlying22 w3) trodAll_mk0)))), rfl, bel.frame _, fun h => by cases h⟩

theorem over : Rows.RecordBackSaid :=
  OpenClaim.holds_of_wide 3 Tryd.f3 rfl rfl rfl rfl rfl rfl rfl ⟨rfl, rfl, rfl, rfl, rfl⟩ rfl rfl rfl rfl rfl (by kernel_rfl) Tryd.func3 (by kernel_rfl)
    (of_decide_eq_true (by kernel_rfl)) (by unfold Func.isWrapper; first | (rw [if_pos (by decide +kernel)]; kernel_rfl) | (rw [if_neg (by decide +kernel)]; exact ⟨rfl, rfl⟩))
    (fun os started H enc _ => lifted os started H enc)
end Go.Proofs.YtgdliebllmgibaaDoor.recordBack
namespace Go.Proofs.YtgdliebllmgibaaDoor

theorem recordBack_card : Rows.RecordBackCardSaid :=
  Claim7.holds_tied_plain_at .later [] [.data] true (true, "2b4b426070f714df14b02f4cdba6f47ab81da080f822b34171151bea08b4b8d4") false
    recordBack.over (fun _ h => by cases h) (by kernel_rfl) (fun _ h => by cases h) recordBack_row_tie rfl ⟨rfl, rfl⟩ (by kernel_rfl) rfl
    (fun f fn hf hfn => by
      obtain rfl : f = 3 := Option.some.inj ((show Tryd.prog.funcNamed Rows.recordBackRow.func = some 3 by kernel_rfl).symm.trans hf) |>.symm
      obtain rfl : fn = Tryd.f3 := (Option.some.inj (Tryd.func3.symm.trans hfn)).symm
      exact ⟨by kernel_rfl, fun j t ht => by
        rw [Tryd.params3] at ht
        have hm : t ∈ [5, 5, 5, 22] := by simpa using Array.mem_of_getElem? ht
        have hall : ([5, 5, 5, 22].all fun u => !Tryd.prog.wantsStandIn u) = true := by kernel_rfl
        exact (show Tryd.prog.wantsStandIn t = false by simpa using List.all_eq_true.1 hall t hm)⟩)
    (by kernel_rfl)
end Go.Proofs.YtgdliebllmgibaaDoor
