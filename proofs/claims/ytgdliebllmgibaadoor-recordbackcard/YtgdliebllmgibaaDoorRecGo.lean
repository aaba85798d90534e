/- A lay's step, a gone's, each at whatever place of its row; what the words say ahead of it and behind. -/
import Derived.Test.YtgdliebllmgibaaDoorRecStep
import Derived.Test.YtgdliebllmgibaaDoorRecLay
namespace Go.Proofs.YtgdliebllmgibaaDoor
open Go Go.RowKit

theorem page5 {P T : Int} (hm : Lay.may P T = true) (p : Nat) (hp : (p : Int) < P) (k : Int) (j : Nat) (hk : k = 9 + (j : Int)) (hj : j < 5) : Lay.page P T k (p : Int) = (((Rec.at5 T p + j : Nat) : Int), true) := by
  obtain ⟨m1, m2, m3, m4⟩ := Lay.may_iff.1 hm
  rw [Rec.page_in (k := k) (p := (p : Int)) hm (by omega) hp (by omega) (by omega), if_neg (show ¬ k = 14 by omega)]
  unfold Rec.at5
  congr 1
  omega
theorem pageX {P T : Int} (hm : Lay.may P T = true) (p : Nat) (hp : (p : Int) < P) : Lay.page P T 14 (p : Int) = (((Rec.atX P T p : Nat) : Int), true) := by
  obtain ⟨m1, m2, m3, m4⟩ := Lay.may_iff.1 hm
  rw [Rec.page_in (k := 14) (p := (p : Int)) hm (by omega) hp (by omega) (by omega), if_pos rfl]
  unfold Rec.atX
  congr 1
  omega
theorem at_lt {P T : Int} (hm : Lay.may P T = true) (p : Nat) (hp : (p : Int) < P) : Rec.atX P T p < (Lay.words P T).toNat ∧ ∀ j, j < 5 → Rec.at5 T p + j < (Lay.words P T).toNat := by
  obtain ⟨t, N, rfl, rfl, hN, e5, eX, hw⟩ := at_eqs hm
  rw [e5, eX]
  exact ⟨by omega, fun j hj => by omega⟩

section
variable {R : Res} {w0 w : World} {m : Nat} {q : Nat} {P T : Int} {p r : Nat} {s : St} {pg : Nat} {ds : List Nat} {dn : Nat} {L : RL}
theorem layGo (l : Loc R) (hm : Lay.may P T = true) (pg0 n d bs al st : Nat) (hn1 : 1 ≤ n) (hp : ((pg0 + n : Nat) : Int) ≤ P) (hd : d < n + 4) (hl : s.words.length = (Lay.words P T).toNat) (hb : bs < 18446744073709551616) (ha : al < 18446744073709551616) (hs : st < 18446744073709551616)
    (h : Own (Sep (BO m (layM P T (pg0 : Int) (n : Int) (d : Int) bs al st)) (Sep (AX q P T p r s pg ds dn L) R)) w0 w) :
    Calls Tryd.prog 12 #[.pointer (some ⟨m, 0, none⟩), .pointer (some ⟨q, 0, none⟩)] w fun e w' => e = .returned (s.put (layAt P T pg0 n bs al st d).1 (layAt P T pg0 n bs al st d).2).did ∧ Own (Sep (BO m (layM P T (pg0 : Int) (n : Int) ((d + 1 : Nat) : Int) bs al st)) (Sep (AX q P T p r (s.put (layAt P T pg0 n bs al st d).1 (layAt P T pg0 n bs al st d).2) pg ds dn L) R)) w0 w' := by
  obtain ⟨m1, m2, m3, m4⟩ := Lay.may_iff.1 hm
  have hA := at_lt hm pg0 (by omega)
  have hn : n ≤ 4096 := by omega
  unfold layAt
  by_cases h1 : d < n
  · rw [if_pos h1]
    have hX := at_lt hm (pg0 + d) (by omega)
    exact layStep4 l pg0 n d bs al st hn h1 (by omega) h (Rec.atX P T (pg0 + d)) (by have := pageX hm (pg0 + d) (by omega); rw [← this]; congr 1) (by rw [hl]; exact hX.1) (pg0 + 1) rfl (by omega) _ rfl
  · rw [if_neg h1]
    by_cases h2 : d = n
    · rw [if_pos h2]
      exact layStep0 l pg0 n d bs al st hn h2 h (Rec.at5 T pg0 + 1) (page5 hm pg0 (by omega) 10 1 rfl (by omega)) (by rw [hl]; exact hA.2 1 (by omega)) bs rfl hb _ rfl
    · rw [if_neg h2]
      by_cases h3 : d = n + 1
      · rw [if_pos h3]
        exact layStep1 l pg0 n d bs al st hn h3 h (Rec.at5 T pg0 + 3) (page5 hm pg0 (by omega) 12 3 rfl (by omega)) (by rw [hl]; exact hA.2 3 (by omega)) al rfl ha _ rfl
      · rw [if_neg h3]
        by_cases h4 : d = n + 2
        · rw [if_pos h4]
          exact layStep2 l pg0 n d bs al st hn h4 h (Rec.at5 T pg0 + 4) (page5 hm pg0 (by omega) 13 4 rfl (by omega)) (by rw [hl]; exact hA.2 4 (by omega)) 0 rfl (by omega) _ rfl
        · rw [if_neg h4]
          exact layStep3 l pg0 n d bs al st hn (by omega) h (Rec.at5 T pg0) (page5 hm pg0 (by omega) 9 0 rfl (by omega)) (by rw [hl]; exact hA.2 0 (by omega)) st rfl hs _ rfl
theorem goneGo (l : Loc R) (hm : Lay.may P T = true) (pg0 n d : Nat) (hn1 : 1 ≤ n) (hp : ((pg0 + n : Nat) : Int) ≤ P) (hd : d < n + 1) (hl : s.words.length = (Lay.words P T).toNat)
    (h : Own (Sep (BO m (goneM P T (pg0 : Int) (n : Int) (d : Int))) (Sep (AX q P T p r s pg ds dn L) R)) w0 w) :
    Calls Tryd.prog 17 #[.pointer (some ⟨m, 0, none⟩), .pointer (some ⟨q, 0, none⟩)] w fun e w' => e = .returned (s.put (goneAt P T pg0 n d).1 (goneAt P T pg0 n d).2).did ∧ Own (Sep (BO m (goneM P T (pg0 : Int) (n : Int) ((d + 1 : Nat) : Int))) (Sep (AX q P T p r (s.put (goneAt P T pg0 n d).1 (goneAt P T pg0 n d).2) pg ds dn L) R)) w0 w' := by
  obtain ⟨m1, m2, m3, m4⟩ := Lay.may_iff.1 hm
  have hA := at_lt hm pg0 (by omega)
  have hn : n ≤ 4096 := by omega
  unfold goneAt
  by_cases h1 : d < n
  · rw [if_pos h1]
    have hX := at_lt hm (pg0 + d) (by omega)
    exact goneStep1 l pg0 n d hn h1 (by omega) h (Rec.atX P T (pg0 + d)) (by have := pageX hm (pg0 + d) (by omega); rw [← this]; congr 1) (by rw [hl]; exact hX.1) 0 rfl (by omega) _ rfl
  · rw [if_neg h1]
    exact goneStep0 l pg0 n d hn (by omega) h (Rec.at5 T pg0) (page5 hm pg0 (by omega) 9 0 rfl (by omega)) (by rw [hl]; exact hA.2 0 (by omega)) 0 rfl (by omega) _ rfl
end
end Go.Proofs.YtgdliebllmgibaaDoor
