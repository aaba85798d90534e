/- text: of a number. -/
import Derived.Test.YtblodflboalbmaaBase
import Derived.Test.YtblodflboalbmaaHeap
import Derived.Laws.BytesString
namespace Go.Proofs.Ytblodflboalbmaa
open Go.RowKit

/-- The text of a number. -/
def txt (n : Nat) : ByteArray := [(97 + (n : Int) % 26), (97 + (n : Int) / 26 % 26)].foldl (fun r n => r.push (UInt8.ofNat n.toNat)) ByteArray.empty

theorem load_two (w : World) (a b : Int) (t : TypeId) : (loadCells ⟨w.heap.size, 0, none⟩ 2).run Try.prog (w.alloc (.cells #[.int .u8 a, .int .u8 b] t)) = .ok ([a, b].map (Value.int .u8)).toArray (w.alloc (.cells #[.int .u8 a, .int .u8 b] t)) := by
  simp [loadCells, go_sem, Addr.add, Result.andThen]

set_option maxRecDepth 100000 in
set_option maxHeartbeats 1000000 in
theorem textT (n : Nat) (hn : n < 1000) (w : World) : Calls Try.prog 34 #[.int .i64 (n : Int)] w fun e w' => e = .returned (.string (txt n)) ∧ Below w.heap.size w w' := by
  have HR := (run_convert_bytes_string (w.alloc (.cells #[.int .u8 (97 + (n : Int) % 26), .int .u8 (97 + (n : Int) / 26 % 26)] 5)) 43 9 5 (some ⟨w.heap.size, 0, none⟩) 2 2 Try.underlying43 Try.underlying5 Try.underlying9).trans
    (run_bytesToString _ _ 2 2 [(97 + (n : Int) % 26), (97 + (n : Int) / 26 % 26)] (load_two w _ _ _))
  rw [show List.foldl (fun r n => r.push (UInt8.ofNat n.toNat)) ByteArray.empty [(97 + (n : Int) % 26), (97 + (n : Int) / 26 % 26)] = txt n from rfl] at HR
  generalize txt n = s at HR ⊢
  go_enter Try.func34, Try.ntmps34
  go_wp2
  go_ret
  exact ⟨rfl, (Below.refl _ w).alloc (Nat.le_refl _) _⟩
end Go.Proofs.Ytblodflboalbmaa
