/-
  Whether a configuration may be, number by number; and how many slots.
-/
import Derived.Test.YteliaammffmmiaaPool
namespace Go.Proofs.Yteliaammffmmiaa
open Go.RowKit

/-- The cells of a configuration. -/
def confC (d t : Int) (s : Nat → Int) (bk rm : Int) (kf bf : Nat) : Array Value := #[.int .i64 d, .int .i64 t, .int .i64 (s 0), .int .i64 (s 1), .int .i64 (s 2), .int .i64 (s 3), .int .i64 bk, .int .i64 rm, .float .f64 kf, .float .f64 bf]
/-- May these numbers be, each by itself? -/
structure Lim (d t : Int) (s : Nat → Int) (bk rm : Int) : Prop where
  d0 : 1 ≤ d
  d1 : d ≤ 64
  t0 : 64 ≤ t
  t1 : t ≤ 256
  s0 : ∀ k, k < 4 → 0 ≤ s k
  s1 : ∀ k, k < 4 → s k ≤ 512
  b0 : 0 ≤ bk
  b1 : bk ≤ 65536
  r0 : 0 ≤ rm
  r1 : rm ≤ 65536

/-- The least power of two above a number of terms. -/
def slotsOf (t : Int) : Int := if t < 128 then 128 else if t < 256 then 256 else 512
end Go.Proofs.Yteliaammffmmiaa
