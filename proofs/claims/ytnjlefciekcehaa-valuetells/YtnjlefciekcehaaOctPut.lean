/- Contract of octet.Put. -/
import Derived.Test.YtnjlefciekcehaaOctNot
namespace Go.Proofs.Ytnjlefciekcehaa
open Go.RowKit
set_option linter.unusedVariables false

/-- n in so many bytes, the lowest ones first. -/
def putL (n : Nat) : Nat → List UInt8
  | 0 => []
  | w + 1 => UInt8.ofNat n :: putL (n / 256) w

theorem length_putL : ∀ w n, (putL n w).length = w
  | 0, _ => rfl
  | w + 1, n => by simp [putL, length_putL w]

theorem putL_get : ∀ (w n k : Nat) (h : k < w), (putL n w)[k]'(by rw [length_putL]; exact h) = UInt8.ofNat (n / 256 ^ k)
  | w + 1, n, 0, _ => by simp [putL]
  | w + 1, n, k + 1, h => by
    have := putL_get w (n / 256) k (by omega)
    simp only [putL, List.getElem_cons_succ, this, Nat.div_div_eq_div_mul, Nat.pow_succ, Nat.mul_comm]

theorem pow8 (k : Nat) : 2 ^ (8 * k) = 256 ^ k := by rw [Nat.pow_mul]
theorem put_byte (m k : Nat) : ((m : Int) / 2 ^ (8 * k) % 256) = ((UInt8.ofNat (m / 256 ^ k)).toNat : Int) := by
  have e : ((2 : Int) ^ (8 * k)) = ((256 ^ k : Nat) : Int) := by rw [← pow8]; simp
  rw [e]
  simp

/-- Whether n is put in so many bytes. -/
def okPut (n width : Int) : Bool := isWidthB width && decide (0 ≤ n) && decide (n < 256 ^ width.toNat)

def putS (n width : Int) : List UInt8 := if okPut n width = true then putL n.toNat width.toNat else []
def putE (n width : Int) : Int := if okPut n width = true then 0 else 1

end Go.Proofs.Ytnjlefciekcehaa
