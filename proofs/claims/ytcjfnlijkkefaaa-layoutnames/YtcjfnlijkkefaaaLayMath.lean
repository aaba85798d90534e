/- Each thing's word is for it, and each word but the first eight is found by its name: the numbers. (Of no program's text.) -/
import Derived.Test.YtcjfnlijkkefaaaLayOk
namespace Go.Proofs.Ytcjfnlijkkefaaa
namespace Lay

theorem two_bd (f : Bool) : two f = 0 ∨ two f = 2 := by cases f <;> simp [two]

theorem name_in {P T a : Int} (hm : may P T = true) (h0 : 0 ≤ a) (h1 : a < total P T) : name P T a = (spot P T a, true) := by
  unfold name
  rw [words_in hm]
  exact if_pos (below_iff.2 ⟨h0, h1⟩)

theorem spot_head {c p : Int} (P T : Int) (f : Bool) (c1 : 0 ≤ c) (c2 : c < 15) (p1 : 0 ≤ p) (p2 : p < 2) : spot P T (8 + 4 * c + p + two f) = (7, c, p + two f) := by
  have h := two_bd f
  generalize two f = d at *
  unfold spot
  rw [if_neg (by omega), if_pos (by omega)]
  have e1 : (8 + 4 * c + p + d - 8) / 4 = c := by omega
  have e2 : (8 + 4 * c + p + d - 8) % 4 = p + d := by omega
  rw [e1, e2]

theorem spot_cache {t c T : Int} (P : Int) (t1 : 0 ≤ t) (t2 : t < T) (c1 : 0 ≤ c) (c2 : c < 14) : spot P T (68 + 14 * t + c) = (8, t, c) := by
  unfold spot states
  rw [if_neg (by omega), if_neg (by omega), if_pos (by omega)]
  have e1 : (68 + 14 * t + c - 68) / 14 = t := by omega
  have e2 : (68 + 14 * t + c - 68) % 14 = c := by omega
  rw [e1, e2]

theorem spot_page {P T k p : Int} (h3 : 1 ≤ T) (p1 : 0 ≤ p) (p2 : p < P) (k1 : 9 ≤ k) (k2 : k ≤ 14) : spot P T (if k = 14 then index P T + p else states T + 5 * p + (k - 9)) = (k, p, 0) := by
  unfold spot states index used
  by_cases h : k = 14
  · rw [if_pos h, if_neg (by omega), if_neg (by omega), if_neg (by omega), if_neg (by omega), if_pos (by omega)]
    have e1 : 68 + 14 * T + 5 * P + p - (68 + 14 * T + 5 * P) = p := by omega
    rw [e1, h]
  · rw [if_neg h, if_neg (by omega), if_neg (by omega), if_neg (by omega), if_pos (by omega)]
    have e1 : (68 + 14 * T + 5 * p + (k - 9) - (68 + 14 * T)) / 5 = p := by omega
    have e2 : 9 + (68 + 14 * T + 5 * p + (k - 9) - (68 + 14 * T)) % 5 = k := by omega
    rw [e1, e2]

theorem spot_map {P T k i : Int} (h1 : 1 ≤ P) (h3 : 1 ≤ T) (i1 : 0 ≤ i) (i2 : i < maps P) (k1 : k = 15 ∨ k = 16) : spot P T (if k = 16 then gone P T + i else used P T + i) = (k, i, 0) := by
  unfold spot states index gone used
  generalize maps P = n at *
  rcases k1 with h | h
  · subst h
    rw [if_neg (show ¬ ((15 : Int) = 16) by decide), if_neg (by omega), if_neg (by omega), if_neg (by omega), if_neg (by omega), if_neg (by omega), if_pos (by omega)]
    have e1 : 68 + 14 * T + 6 * P + i - (68 + 14 * T + 6 * P) = i := by omega
    rw [e1]
  · subst h
    rw [if_pos rfl, if_neg (by omega), if_neg (by omega), if_neg (by omega), if_neg (by omega), if_neg (by omega), if_neg (by omega)]
    have e1 : 68 + 14 * T + 6 * P + n + i - (68 + 14 * T + 6 * P + n) = i := by omega
    rw [e1]

theorem head_in {P T c p : Int} (f : Bool) (hm : may P T = true) (c1 : 0 ≤ c) (c2 : c < 15) (p1 : 0 ≤ p) (p2 : p < 2) : head P T c f p = (8 + 4 * c + p + two f, true) := by
  unfold head
  rw [hm, below_iff.2 ⟨c1, c2⟩, below_iff.2 ⟨p1, p2⟩]
  rfl

theorem cache_in {P T t c : Int} (hm : may P T = true) (t1 : 0 ≤ t) (t2 : t < T) (c1 : 0 ≤ c) (c2 : c < 14) : cache P T t c = (68 + 14 * t + c, true) := by
  unfold cache
  rw [hm, below_iff.2 ⟨t1, t2⟩, below_iff.2 ⟨c1, c2⟩]
  rfl

theorem page_in {P T k p : Int} (hm : may P T = true) (p1 : 0 ≤ p) (p2 : p < P) (k1 : 9 ≤ k) (k2 : k ≤ 14) : page P T k p = (if k = 14 then index P T + p else states T + 5 * p + (k - 9), true) := by
  unfold page
  rw [hm, below_iff.2 ⟨p1, p2⟩, decide_eq_true k1, decide_eq_true k2]
  rfl

theorem map_in {P T k i : Int} (hm : may P T = true) (i1 : 0 ≤ i) (i2 : i < maps P) (k1 : k = 15 ∨ k = 16) : map P T k i = (if k = 16 then gone P T + i else used P T + i, true) := by
  unfold map
  rw [hm, below_iff.2 ⟨i1, i2⟩]
  rcases k1 with h | h <;> (subst h; rfl)

/-- What a thing's name is, without what is left out. -/
def norm (K B : Int) : Int := if 8 < K then 0 else B

/-- What is found lies behind the first eight words, in the layout, and has that name. -/
theorem find_spot {P T K A B a : Int} (hm : may P T = true) (k1 : 7 ≤ K) (k2 : K ≤ 16) (b0 : 0 ≤ B) (hb : K = 7 → B ≤ 3) (h : find P T K A B = (a, true)) :
    8 ≤ a ∧ a < total P T ∧ spot P T a = (K, A, norm K B) := by
  obtain ⟨m1, m2, m3, m4⟩ := may_iff.1 hm
  obtain ⟨n1, n2, n3⟩ := maps_bd m1 m2
  unfold find at h
  by_cases k7 : K = 7
  · rw [if_pos k7] at h
    have hb := hb k7
    subst k7
    unfold head at h
    by_cases hc : (may P T && below A 15 && below (B % 2) 2) = true
    · rw [if_pos hc] at h
      rw [hm, Bool.true_and, Bool.and_eq_true] at hc
      obtain ⟨c1, c2⟩ := below_iff.1 hc.1
      obtain ⟨p1, p2⟩ := below_iff.1 hc.2
      have e := spot_head P T (decide (2 ≤ B)) c1 c2 p1 p2
      simp only [Prod.mk.injEq, and_true] at h
      rw [h] at e
      have d := two_bd (decide (2 ≤ B))
      have e2 : B % 2 + two (decide (2 ≤ B)) = norm 7 B := by
        unfold norm two
        rw [if_neg (show ¬ ((8 : Int) < 7) by decide)]
        by_cases h2 : 2 ≤ B
        · rw [decide_eq_true h2, if_pos rfl]; omega
        · rw [decide_eq_false h2, if_neg (by simp)]; omega
      rw [e2] at e
      unfold total
      exact ⟨by omega, by omega, e⟩
    · rw [if_neg hc] at h
      cases h
  rw [if_neg k7] at h
  by_cases k8 : K = 8
  · rw [if_pos k8] at h
    subst k8
    unfold cache at h
    by_cases hc : (may P T && below A T && below B 14) = true
    · rw [if_pos hc] at h
      rw [hm, Bool.true_and, Bool.and_eq_true] at hc
      obtain ⟨c1, c2⟩ := below_iff.1 hc.1
      obtain ⟨p1, p2⟩ := below_iff.1 hc.2
      have e := spot_cache P c1 c2 p1 p2
      simp only [Prod.mk.injEq, and_true] at h
      rw [h] at e
      unfold total
      exact ⟨by omega, by omega, e⟩
    · rw [if_neg hc] at h
      cases h
  rw [if_neg k8] at h
  have en : norm K B = 0 := if_pos (by omega)
  rw [en]
  by_cases k15 : K = 15 ∨ K = 16
  · rw [if_pos k15] at h
    unfold map at h
    by_cases hc : (may P T && below A (maps P) && (decide (K = 15) || decide (K = 16))) = true
    · rw [if_pos hc] at h
      rw [hm, Bool.true_and, Bool.and_eq_true] at hc
      obtain ⟨c1, c2⟩ := below_iff.1 hc.1
      have e := spot_map m1 m3 c1 c2 k15
      simp only [Prod.mk.injEq, and_true] at h
      rw [h] at e
      refine ⟨?_, ?_, e⟩
      · rw [← h]
        unfold gone used
        split <;> omega
      · rw [← h]
        unfold gone used total
        split <;> omega
    · rw [if_neg hc] at h
      cases h
  · rw [if_neg k15] at h
    unfold page at h
    by_cases hc : (may P T && below A P && (decide (9 ≤ K) && decide (K ≤ 14))) = true
    · rw [if_pos hc] at h
      rw [hm, Bool.true_and, Bool.and_eq_true] at hc
      obtain ⟨c1, c2⟩ := below_iff.1 hc.1
      have e := spot_page (P := P) (T := T) (k := K) m3 c1 c2 (by omega) (by omega)
      simp only [Prod.mk.injEq, and_true] at h
      rw [h] at e
      refine ⟨?_, ?_, e⟩
      · rw [← h]
        unfold index states
        split <;> omega
      · rw [← h]
        unfold index states total
        split <;> omega
    · rw [if_neg hc] at h
      cases h

/-- A name finds the same word whatever it leaves out. -/
theorem find_norm {P T K A B : Int} : find P T K A B = find P T K A (norm K B) := by
  unfold norm
  by_cases h : 8 < K
  · rw [if_pos h]
    unfold find
    rw [if_neg (show ¬ K = 7 by omega), if_neg (show ¬ K = 7 by omega), if_neg (show ¬ K = 8 by omega), if_neg (show ¬ K = 8 by omega)]
  · rw [if_neg h]

/-- A word behind the first eight is found by its name. -/
theorem spot_find {P T a : Int} (hm : may P T = true) (h0 : 8 ≤ a) (h1 : a < total P T) : 0 ≤ (spot P T a).2.2 ∧ (spot P T a).2.2 ≤ 100 ∧ find P T (spot P T a).1 (spot P T a).2.1 (spot P T a).2.2 = (a, true) := by
  obtain ⟨m1, m2, m3, m4⟩ := may_iff.1 hm
  obtain ⟨n1, n2, n3⟩ := maps_bd m1 m2
  unfold total at h1
  unfold spot
  rw [if_neg (by omega)]
  by_cases t2 : a < 68
  · rw [if_pos t2]
    refine ⟨by show 0 ≤ (a - 8) % 4; omega, by show (a - 8) % 4 ≤ 100; omega, ?_⟩
    show find P T 7 ((a - 8) / 4) ((a - 8) % 4) = _
    unfold find
    rw [if_pos rfl, head_in _ hm (by omega) (by omega) (by omega) (by omega)]
    unfold two
    by_cases h2 : 2 ≤ (a - 8) % 4
    · rw [decide_eq_true h2, if_pos rfl]
      exact Prod.ext (by show 8 + 4 * ((a - 8) / 4) + (a - 8) % 4 % 2 + 2 = a; omega) rfl
    · rw [decide_eq_false h2, if_neg (by simp)]
      exact Prod.ext (by show 8 + 4 * ((a - 8) / 4) + (a - 8) % 4 % 2 + 0 = a; omega) rfl
  rw [if_neg t2]
  unfold states
  by_cases t3 : a < 68 + 14 * T
  · rw [if_pos t3]
    refine ⟨by show 0 ≤ (a - 68) % 14; omega, by show (a - 68) % 14 ≤ 100; omega, ?_⟩
    show find P T 8 ((a - 68) / 14) ((a - 68) % 14) = _
    unfold find
    rw [if_neg (by decide), if_pos rfl, cache_in hm (by omega) (by omega) (by omega) (by omega)]
    exact Prod.ext (by show 68 + 14 * ((a - 68) / 14) + (a - 68) % 14 = a; omega) rfl
  rw [if_neg t3]
  unfold index
  by_cases t4 : a < 68 + 14 * T + 5 * P
  · rw [if_pos t4]
    refine ⟨by show (0 : Int) ≤ 0; omega, by show (0 : Int) ≤ 100; omega, ?_⟩
    obtain ⟨q, hq⟩ : ∃ q, (a - (68 + 14 * T)) / 5 = q := ⟨_, rfl⟩
    obtain ⟨r, hr⟩ : ∃ r, (a - (68 + 14 * T)) % 5 = r := ⟨_, rfl⟩
    rw [hq, hr]
    show find P T (9 + r) q 0 = _
    unfold find
    rw [if_neg (by omega), if_neg (by omega), if_neg (by omega), page_in hm (by omega) (by omega) (by omega) (by omega), if_neg (by omega)]
    unfold states
    exact Prod.ext (by show 68 + 14 * T + 5 * q + (9 + r - 9) = a; omega) rfl
  rw [if_neg t4]
  unfold used
  by_cases t5 : a < 68 + 14 * T + 6 * P
  · rw [if_pos t5]
    refine ⟨by show (0 : Int) ≤ 0; omega, by show (0 : Int) ≤ 100; omega, ?_⟩
    show find P T 14 (a - (68 + 14 * T + 5 * P)) 0 = _
    unfold find
    rw [if_neg (by decide), if_neg (by decide), if_neg (by decide), page_in hm (by omega) (by omega) (by omega) (by omega), if_pos rfl]
    unfold index
    exact Prod.ext (by show 68 + 14 * T + 5 * P + (a - (68 + 14 * T + 5 * P)) = a; omega) rfl
  rw [if_neg t5]
  unfold gone
  by_cases t6 : a < 68 + 14 * T + 6 * P + maps P
  · rw [if_pos t6]
    refine ⟨by show (0 : Int) ≤ 0; omega, by show (0 : Int) ≤ 100; omega, ?_⟩
    show find P T 15 (a - (68 + 14 * T + 6 * P)) 0 = _
    unfold find
    rw [if_neg (by decide), if_neg (by decide), if_pos (by decide), map_in hm (by omega) (by omega) (.inl rfl), if_neg (by decide)]
    unfold used
    exact Prod.ext (by show 68 + 14 * T + 6 * P + (a - (68 + 14 * T + 6 * P)) = a; omega) rfl
  · rw [if_neg t6]
    refine ⟨by show (0 : Int) ≤ 0; omega, by show (0 : Int) ≤ 100; omega, ?_⟩
    show find P T 16 (a - (68 + 14 * T + 6 * P + maps P)) 0 = _
    unfold find
    rw [if_neg (by decide), if_neg (by decide), if_pos (by decide), map_in hm (by omega) (by omega) (.inr rfl), if_pos rfl]
    unfold gone
    exact Prod.ext (by show 68 + 14 * T + 6 * P + maps P + (a - (68 + 14 * T + 6 * P + maps P)) = a; omega) rfl

end Lay
end Go.Proofs.Ytcjfnlijkkefaaa
