/- The functions of packages tag and dustpanref6 over a world that has grown from another: what they answer, each at every argument. -/
import Derived.Test.YtbfkhbeekdfceaaTgCalls
import Derived.Test.YtbfkhbeekdfceaaHeap
namespace Go.Proofs.Ytbfkhbeekdfceaa
open Go.RowKit

/-- The world w0, grown. -/
structure TgOk (w0 w : World) : Prop where
  below : Below w0.heap.size w0 w

theorem TgOk.start (w : World) : TgOk w w := ⟨Below.refl _ _⟩
theorem TgOk.drewN {w0 w : World} (h : TgOk w0 w) (q : Nat) : TgOk w0 (w.drewN q) := ⟨below_drewN h.below q⟩

variable {w0 w : World}

theorem makeOk (t : Nat) (ht : t < 4294967296) (p : Int) (a : Nat) (b : Bool) (h : Tg.make t p = (a, b)) (hok : TgOk w0 w) :
    Calls Try.prog 7 #[.int .u32 t, .int .i64 p] w fun e w' => e = .returned (.tuple #[.int .u64 a, .bool b]) ∧ TgOk w0 w' := by
  have k := make7 t p ht w
  rw [h] at k
  exact k.mono fun _ _ ⟨he, hw⟩ => ⟨he, hw ▸ hok⟩

theorem rmakeOk (t : Nat) (ht : t < 4294967296) (p : Int) (a : Nat) (b : Bool) (h : Tg.make t p = (a, b)) (hok : TgOk w0 w) :
    Calls Try.prog 8 #[.int .u32 t, .int .i64 p] w fun e w' => e = .returned (.tuple #[.int .u64 a, .bool b]) ∧ TgOk w0 w' := by
  have k := rmake8 t p ht w
  rw [h] at k
  exact k.mono fun _ _ ⟨he, hw⟩ => ⟨he, hw ▸ hok⟩

theorem nextOk (x : Nat) (hx : x < 18446744073709551616) (p : Int) (a : Nat) (b : Bool) (h : Tg.next x p = (a, b)) (hok : TgOk w0 w) :
    Calls Try.prog 9 #[.int .u64 x, .int .i64 p] w fun e w' => e = .returned (.tuple #[.int .u64 a, .bool b]) ∧ TgOk w0 w' := by
  have k := next9 x hx p w
  rw [h] at k
  exact k.mono fun _ _ ⟨he, q, hw⟩ => ⟨he, hw ▸ hok.drewN q⟩

theorem rnextOk (x : Nat) (hx : x < 18446744073709551616) (p : Int) (a : Nat) (b : Bool) (h : Tg.next x p = (a, b)) (hok : TgOk w0 w) :
    Calls Try.prog 10 #[.int .u64 x, .int .i64 p] w fun e w' => e = .returned (.tuple #[.int .u64 a, .bool b]) ∧ TgOk w0 w' := by
  have k := rnext10 x hx p w
  rw [h] at k
  exact k.mono fun _ _ ⟨he, hw⟩ => ⟨he, hw ▸ hok⟩

theorem pageOk (x : Nat) (hx : x < 18446744073709551616) (a : Int) (h : Tg.page x = a) (hok : TgOk w0 w) :
    Calls Try.prog 11 #[.int .u64 x] w fun e w' => e = .returned (.int .i64 a) ∧ TgOk w0 w' := by
  have k := page11 x hx w
  rw [h] at k
  exact k.mono fun _ _ ⟨he, q, hw⟩ => ⟨he, hw ▸ hok.drewN q⟩

theorem rpageOk (x : Nat) (hx : x < 18446744073709551616) (a : Int) (h : Tg.page x = a) (hok : TgOk w0 w) :
    Calls Try.prog 12 #[.int .u64 x] w fun e w' => e = .returned (.int .i64 a) ∧ TgOk w0 w' := by
  have k := rpage12 x hx w
  rw [h] at k
  exact k.mono fun _ _ ⟨he, hw⟩ => ⟨he, hw ▸ hok⟩

theorem tagOk (x : Nat) (hx : x < 18446744073709551616) (a : Nat) (h : Tg.tag x = a) (hok : TgOk w0 w) :
    Calls Try.prog 13 #[.int .u64 x] w fun e w' => e = .returned (.int .u32 a) ∧ TgOk w0 w' := by
  have k := tag13 x hx w
  rw [h] at k
  exact k.mono fun _ _ ⟨he, q, hw⟩ => ⟨he, hw ▸ hok.drewN q⟩

theorem rtagOk (x : Nat) (hx : x < 18446744073709551616) (a : Nat) (h : Tg.tag x = a) (hok : TgOk w0 w) :
    Calls Try.prog 14 #[.int .u64 x] w fun e w' => e = .returned (.int .u32 a) ∧ TgOk w0 w' := by
  have k := rtag14 x hx w
  rw [h] at k
  exact k.mono fun _ _ ⟨he, hw⟩ => ⟨he, hw ▸ hok⟩

theorem awakeOk6 (hok : TgOk w0 w) : Calls Try.prog 15 #[] w fun e w' => e = .returned (.bool true) ∧ TgOk w0 w' :=
  (awake15 w).mono fun _ _ ⟨he, q, hw⟩ => ⟨he, hw ▸ hok.drewN q⟩

end Go.Proofs.Ytbfkhbeekdfceaa
