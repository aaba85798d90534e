/- Package runs: the iterator all; Total. -/
import Derived.Test.YtafamfjgehnddaaRunTake
import Derived.Test.YtafamfjgehnddaaPhaseC
import Derived.Sort.LoopGhostIn
import Derived.Shelf.Abstract
import Derived.Sort.QuietIn
import Derived.OwnWalkIn
namespace Go.Proofs.Ytafamfjgehnddaa
open Go.RowKit

attribute [local go_sem] Oper.semAt_some

def runVal (k : Int) : Array Value := #[.int .i64 (rA k), .int .i64 (rN k)]

/-- How many pages are free. -/
def totL (L : RL) : Int := (L.map fun i => rN i.1).sum
theorem tot_bd {pg : Nat} {ds : List Nat} {dn : Nat} {L : RL} (hf : Fine pg ds dn L) : ∀ M : List Int, M <+: L.map (·.1) → 0 ≤ (M.map rN).sum ∧ (M.map rN).sum ≤ 4096 * M.length := by
  intro M hM
  have hk : ∀ k ∈ M, 0 ≤ rN k ∧ rN k ≤ 4096 := fun k hk => by
    obtain ⟨i, hi, rfl⟩ := List.mem_map.1 (hM.subset hk)
    have := hf.key hi; have := rA_bd i.1; omega
  clear hM
  induction M with
  | nil => simp
  | cons k M ih =>
    have h1 := ih (fun x hx => hk x (by simp [hx]))
    have h2 := hk k (by simp)
    simp only [List.map_cons, List.sum_cons, List.length_cons]
    omega

end Go.Proofs.Ytafamfjgehnddaa
