/- The functions of packages phase and dustpanref6 over a world that has grown from another: what they answer, each at every argument. -/
import Derived.Test.YtdhjingcnnkbiaaPhRef
import Derived.Test.YtdhjingcnnkbiaaHeap
namespace Go.Proofs.Ytdhjingcnnkbiaa
open Go.RowKit

/-- The world w0, grown. -/
structure PhOk (w0 w : World) : Prop where
  below : Below w0.heap.size w0 w

theorem PhOk.start (w : World) : PhOk w w := ⟨Below.refl _ _⟩
theorem PhOk.drewN {w0 w : World} (h : PhOk w0 w) (q : Nat) : PhOk w0 (w.drewN q) := ⟨below_drewN h.below q⟩

variable {w0 w : World}

theorem makeOk (g p : Int) (a : Nat) (b : Bool) (h : Ph.make g p = (a, b)) (hok : PhOk w0 w) :
    Calls Try.prog 8 #[.int .i64 g, .int .i64 p] w fun e w' => e = .returned (.tuple #[.int .u64 a, .bool b]) ∧ PhOk w0 w' := by
  have k := makeP g p w
  rw [h] at k
  exact k.mono fun _ _ ⟨he, hw⟩ => ⟨he, hw ▸ hok⟩

theorem rstateOk (g p : Int) (a : Nat) (b : Bool) (h : Ph.make g p = (a, b)) (hok : PhOk w0 w) :
    Calls Try.prog 9 #[.int .i64 g, .int .i64 p] w fun e w' => e = .returned (.tuple #[.int .u64 a, .bool b]) ∧ PhOk w0 w' := by
  have k := rstate g p w
  rw [h] at k
  exact k.mono fun _ _ ⟨he, hw⟩ => ⟨he, hw ▸ hok⟩

theorem goesOk (x : Nat) (hx : x < 18446744073709551616) (g p : Int) (a : Nat) (b : Bool) (h : Ph.goes x g p = (a, b)) (hok : PhOk w0 w) :
    Calls Try.prog 10 #[.int .u64 x, .int .i64 g, .int .i64 p] w fun e w' => e = .returned (.tuple #[.int .u64 a, .bool b]) ∧ PhOk w0 w' := by
  have k := goesP x hx g p w
  rw [h] at k
  exact k.mono fun _ _ ⟨he, q, hw⟩ => ⟨he, hw ▸ hok.drewN q⟩

theorem rgoesOk (x : Nat) (hx : x < 18446744073709551616) (g p : Int) (hg : g ≤ 9223372036854775807) (a : Nat) (b : Bool) (h : Ph.goes x g p = (a, b)) (hok : PhOk w0 w) :
    Calls Try.prog 11 #[.int .u64 x, .int .i64 g, .int .i64 p] w fun e w' => e = .returned (.tuple #[.int .u64 a, .bool b]) ∧ PhOk w0 w' := by
  have k := rgoes x hx g p hg w
  rw [h] at k
  exact k.mono fun _ _ ⟨he, hw⟩ => ⟨he, hw ▸ hok⟩

theorem mayOk (x : Nat) (hx : x < 18446744073709551616) (a : Bool) (h : Ph.may x = a) (hok : PhOk w0 w) :
    Calls Try.prog 12 #[.int .u64 x] w fun e w' => e = .returned (.bool a) ∧ PhOk w0 w' := by
  have k := mayP x hx w
  rw [h] at k
  exact k.mono fun _ _ ⟨he, q, hw⟩ => ⟨he, hw ▸ hok.drewN q⟩

theorem rmayOk (x : Nat) (hx : x < 18446744073709551616) (a : Bool) (h : Ph.may x = a) (hok : PhOk w0 w) :
    Calls Try.prog 13 #[.int .u64 x] w fun e w' => e = .returned (.bool a) ∧ PhOk w0 w' := by
  have k := rmay x hx w
  rw [h] at k
  exact k.mono fun _ _ ⟨he, hw⟩ => ⟨he, hw ▸ hok⟩

theorem genOk (x : Nat) (hx : x < 18446744073709551616) (a : Int) (h : Ph.gen x = a) (hok : PhOk w0 w) :
    Calls Try.prog 14 #[.int .u64 x] w fun e w' => e = .returned (.int .i64 a) ∧ PhOk w0 w' := by
  have k := genP x hx w
  rw [h] at k
  exact k.mono fun _ _ ⟨he, q, hw⟩ => ⟨he, hw ▸ hok.drewN q⟩

theorem rgenOk (x : Nat) (hx : x < 18446744073709551616) (a : Int) (h : Ph.gen x = a) (hok : PhOk w0 w) :
    Calls Try.prog 15 #[.int .u64 x] w fun e w' => e = .returned (.int .i64 a) ∧ PhOk w0 w' := by
  have k := rgen x hx w
  rw [h] at k
  exact k.mono fun _ _ ⟨he, hw⟩ => ⟨he, hw ▸ hok⟩

theorem phOk (x : Nat) (hx : x < 18446744073709551616) (a : Int) (h : Ph.ph x = a) (hok : PhOk w0 w) :
    Calls Try.prog 16 #[.int .u64 x] w fun e w' => e = .returned (.int .i64 a) ∧ PhOk w0 w' := by
  have k := phP x hx w
  rw [h] at k
  exact k.mono fun _ _ ⟨he, q, hw⟩ => ⟨he, hw ▸ hok.drewN q⟩

theorem rphOk (x : Nat) (hx : x < 18446744073709551616) (a : Int) (h : Ph.ph x = a) (hok : PhOk w0 w) :
    Calls Try.prog 17 #[.int .u64 x] w fun e w' => e = .returned (.int .i64 a) ∧ PhOk w0 w' := by
  have k := rph x hx w
  rw [h] at k
  exact k.mono fun _ _ ⟨he, hw⟩ => ⟨he, hw ▸ hok⟩

theorem sweptOk (x : Nat) (hx : x < 18446744073709551616) (g : Int) (a : Bool) (h : Ph.swept x g = a) (hok : PhOk w0 w) :
    Calls Try.prog 18 #[.int .u64 x, .int .i64 g] w fun e w' => e = .returned (.bool a) ∧ PhOk w0 w' := by
  have k := sweptP x hx g w
  rw [h] at k
  exact k.mono fun _ _ ⟨he, q, hw⟩ => ⟨he, hw ▸ hok.drewN q⟩

theorem rsweptOk (x : Nat) (hx : x < 18446744073709551616) (g : Int) (a : Bool) (h : Ph.swept x g = a) (hok : PhOk w0 w) :
    Calls Try.prog 19 #[.int .u64 x, .int .i64 g] w fun e w' => e = .returned (.bool a) ∧ PhOk w0 w' := by
  have k := rswept x hx g w
  rw [h] at k
  exact k.mono fun _ _ ⟨he, hw⟩ => ⟨he, hw ▸ hok⟩

theorem waitsOk (x : Nat) (hx : x < 18446744073709551616) (g : Int) (a : Bool) (h : Ph.waits x g = a) (hok : PhOk w0 w) :
    Calls Try.prog 20 #[.int .u64 x, .int .i64 g] w fun e w' => e = .returned (.bool a) ∧ PhOk w0 w' := by
  have k := waitsP x hx g w
  rw [h] at k
  exact k.mono fun _ _ ⟨he, q, hw⟩ => ⟨he, hw ▸ hok.drewN q⟩

theorem rwaitsOk (x : Nat) (hx : x < 18446744073709551616) (g : Int) (hg : g ≤ 9223372036854775807) (a : Bool) (h : Ph.waits x g = a) (hok : PhOk w0 w) :
    Calls Try.prog 21 #[.int .u64 x, .int .i64 g] w fun e w' => e = .returned (.bool a) ∧ PhOk w0 w' := by
  have k := rwaits x hx g hg w
  rw [h] at k
  exact k.mono fun _ _ ⟨he, hw⟩ => ⟨he, hw ▸ hok⟩

theorem awakeOk7 (hok : PhOk w0 w) : Calls Try.prog 22 #[] w fun e w' => e = .returned (.bool true) ∧ PhOk w0 w' :=
  (awakeP w).mono fun _ _ ⟨he, q, hw⟩ => ⟨he, hw ▸ hok.drewN q⟩

end Go.Proofs.Ytdhjingcnnkbiaa
