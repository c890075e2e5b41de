/- The sums of layer 2, over natural numbers: a step is linear, and makes nothing of nothing alone. Nothing of the program. -/
import Derived.Test.YtipiioggdalkoaaGreatDoorOctNum
namespace Go.Proofs.YtipiioggdalkoaaGreatDoor
set_option linter.unusedVariables false

/-- Behind one bit: of a number whose lowest bit is already turned by it. -/
def stp (n : Nat) : Nat := if n % 2 = 1 then (n / 2) ^^^ 3988292384 else n / 2
/-- So many steps. -/
def stps : Nat → Nat → Nat
  | 0, n => n
  | k + 1, n => stps k (stp n)
/-- Behind the eight bits of a byte. -/
@[irreducible] def stp8 (n : Nat) : Nat := stps 8 n
theorem stp8_eq (n : Nat) : stp8 n = stps 8 n := by unfold stp8; rfl
/-- Behind a text. -/
def onL : Nat → List UInt8 → Nat
  | n, [] => n
  | n, b :: l => onL (stp8 (n ^^^ b.toNat)) l
/-- The sum of what has a sum, and a text behind it. -/
def addN (sum : Nat) (l : List UInt8) : Nat := 4294967295 - onL (4294967295 - sum) l
def sumN (l : List UInt8) : Nat := addN 0 l
def sealL (l : List UInt8) : List UInt8 := l ++ putL (sumN l) 4
/-- Does it open? -/
def opens (l : List UInt8) : Bool := decide (4 ≤ l.length) && decide (getN (l.drop (l.length - 4)) = sumN (l.take (l.length - 4)))

theorem xor_two (a b : Nat) : (a ^^^ b) % 2 = (a % 2 + b % 2) % 2 := by
  have h := Nat.testBit_xor (x := a) (y := b) (i := 0)
  simp only [Nat.testBit_zero] at h
  rcases Nat.mod_two_eq_zero_or_one a with ha | ha <;> rcases Nat.mod_two_eq_zero_or_one b with hb | hb <;> rcases Nat.mod_two_eq_zero_or_one (a ^^^ b) with hc | hc <;> simp_all
theorem xor_half (a b : Nat) : (a ^^^ b) / 2 = a / 2 ^^^ b / 2 := by
  apply Nat.eq_of_testBit_eq
  intro i
  simp [Nat.testBit_xor, ← Nat.testBit_succ]

theorem stp_xor (a b : Nat) : stp (a ^^^ b) = stp a ^^^ stp b := by
  unfold stp
  rw [xor_two, xor_half]
  rcases Nat.mod_two_eq_zero_or_one a with ha | ha <;> rcases Nat.mod_two_eq_zero_or_one b with hb | hb <;> simp only [ha, hb] <;> simp
  · rw [Nat.xor_assoc]
  · rw [Nat.xor_assoc, Nat.xor_assoc, Nat.xor_comm 3988292384]
  · rw [Nat.xor_assoc, Nat.xor_comm 3988292384, Nat.xor_assoc, Nat.xor_self, Nat.xor_zero]
theorem stp_lt {n : Nat} (h : n < 4294967296) : stp n < 4294967296 := by
  unfold stp
  split
  · exact Nat.xor_lt_two_pow (n := 32) (by omega) (by decide)
  · omega
theorem stp_nil {n : Nat} (h : n < 4294967296) (e : stp n = 0) : n = 0 := by
  unfold stp at e
  split at e
  · have : n / 2 = 3988292384 := by
      have := congrArg (· ^^^ 3988292384) e
      simpa [Nat.xor_assoc] using this
    omega
  · omega
theorem stp_twice {c : Nat} : stp (2 * c) = c := by unfold stp; rw [if_neg (by omega)]; omega

theorem stps_xor : ∀ (k a b : Nat), stps k (a ^^^ b) = stps k a ^^^ stps k b
  | 0, _, _ => rfl
  | k + 1, a, b => by simp only [stps]; rw [stp_xor, stps_xor k]
theorem stps_lt : ∀ (k : Nat) {n : Nat}, n < 4294967296 → stps k n < 4294967296
  | 0, _, h => h
  | k + 1, _, h => stps_lt k (stp_lt h)
theorem stps_zero : ∀ k : Nat, stps k 0 = 0
  | 0 => rfl
  | k + 1 => by simp only [stps]; exact stps_zero k
theorem stps_nil : ∀ (k : Nat) {n : Nat}, n < 4294967296 → stps k n = 0 → n = 0
  | 0, _, _, e => e
  | k + 1, n, h, e => stp_nil h (stps_nil k (stp_lt h) e)
theorem stps_add : ∀ (j k n : Nat), stps (j + k) n = stps k (stps j n)
  | 0, k, n => by simp [stps]
  | j + 1, k, n => by rw [show j + 1 + k = (j + k) + 1 by omega]; simp only [stps]; exact stps_add j k _
theorem stps_inj (k : Nat) {a b : Nat} (ha : a < 4294967296) (hb : b < 4294967296) (e : stps k a = stps k b) : a = b := by
  have h := stps_nil k (n := a ^^^ b) (Nat.xor_lt_two_pow (n := 32) ha hb) (by rw [stps_xor, e, Nat.xor_self])
  have := congrArg (· ^^^ b) h
  simpa [Nat.xor_assoc] using this
theorem stps_shl : ∀ (k c : Nat), stps k (2 ^ k * c) = c
  | 0, c => by simp [stps]
  | k + 1, c => by
    simp only [stps]
    rw [show 2 ^ (k + 1) * c = 2 * (2 ^ k * c) by rw [Nat.pow_succ, Nat.mul_comm (2 ^ k) 2, Nat.mul_assoc], stp_twice]
    exact stps_shl k c

theorem onL_cons (n : Nat) (b : UInt8) (l : List UInt8) : onL n (b :: l) = onL (stp8 (n ^^^ b.toNat)) l := rfl
theorem onL_append : ∀ (a b : List UInt8) (n : Nat), onL n (a ++ b) = onL (onL n a) b
  | [], _, _ => rfl
  | x :: a, b, n => by rw [List.cons_append, onL_cons, onL_cons, onL_append a b]
theorem byte_lt (b : UInt8) : b.toNat < 4294967296 := by have := b.toNat_lt; omega
theorem x32 {a b : Nat} (ha : a < 4294967296) (hb : b < 4294967296) : a ^^^ b < 4294967296 := Nat.xor_lt_two_pow (n := 32) ha hb
theorem onL_lt : ∀ (l : List UInt8) {n : Nat}, n < 4294967296 → onL n l < 4294967296
  | [], _, h => h
  | b :: l, n, h => onL_lt l (by rw [stp8_eq]; exact stps_lt 8 (x32 h (byte_lt b)))
theorem not_x32 {n : Nat} (h : n < 4294967296) : 4294967295 - n = 4294967295 ^^^ n := by
  apply Nat.eq_of_testBit_eq
  intro i
  have h3 := Nat.testBit_two_pow_sub_succ (x := n) (n := 32) h i
  rw [show (4294967295 : Nat) - n = 2 ^ 32 - (n + 1) by omega, h3, Nat.testBit_xor]
  rw [show (4294967295 : Nat) = 2 ^ 32 - 1 by decide, Nat.testBit_two_pow_sub_one]
  by_cases hi : i < 32
  · simp [hi]
  · have : n.testBit i = false := Nat.testBit_lt_two_pow (Nat.lt_of_lt_of_le h (Nat.pow_le_pow_right (n := 2) (by omega) (by omega : 32 ≤ i)))
    simp [hi, this]
theorem addN_lt (n : Nat) (l : List UInt8) : addN n l < 4294967296 := by unfold addN; omega
theorem sumN_lt (l : List UInt8) : sumN l < 4294967296 := addN_lt 0 l
theorem sumN_eq (l : List UInt8) : sumN l = 4294967295 ^^^ onL 4294967295 l := by
  unfold sumN addN
  exact not_x32 (onL_lt l (by omega))
theorem addN_addN (n : Nat) (a b : List UInt8) (h : n < 4294967296) : addN (addN n a) b = addN n (a ++ b) := by
  unfold addN
  rw [onL_append]
  have := onL_lt a (n := 4294967295 - n) (by omega)
  rw [show 4294967295 - (4294967295 - onL (4294967295 - n) a) = onL (4294967295 - n) a by omega]

/-! ### What is turned in four bytes comes to something -/
theorem stp8_xor (a b : Nat) : stp8 (a ^^^ b) = stp8 a ^^^ stp8 b := by rw [stp8_eq, stp8_eq, stp8_eq, stps_xor]
theorem xors (a b c d : Nat) : (a ^^^ b) ^^^ (c ^^^ d) = (a ^^^ c) ^^^ (b ^^^ d) := by
  rw [Nat.xor_assoc, Nat.xor_assoc, ← Nat.xor_assoc b c d, Nat.xor_comm b c, Nat.xor_assoc c b d]
theorem onL_xor : ∀ (a b : List UInt8) (m n : Nat), a.length = b.length → onL (m ^^^ n) (pairL (· ^^^ ·) a b) = onL m a ^^^ onL n b
  | [], [], _, _, _ => rfl
  | [], _ :: _, _, _, h => by simp at h
  | _ :: _, [], _, _, h => by simp at h
  | x :: a, y :: b, m, n, h => by
    rw [pairL, onL_cons, onL_cons, onL_cons, UInt8.toNat_xor, xors, stp8_xor]
    exact onL_xor a b _ _ (by simpa using h)
theorem onL_zeros : ∀ (k n : Nat), onL n (List.replicate k 0) = stps (8 * k) n
  | 0, n => rfl
  | k + 1, n => by
    rw [List.replicate_succ, onL_cons, onL_zeros k, show (0 : UInt8).toNat = 0 from rfl, Nat.xor_zero, stp8_eq, ← stps_add, Nat.mul_add, Nat.add_comm]
theorem xor_add (a c : Nat) (h : a < 256) : a ^^^ (256 * c) = a + 256 * c := by
  have := Nat.two_pow_add_eq_or_of_lt (i := 8) (by simpa using h) c
  rw [show 256 * c = 2 ^ 8 * c by rfl, Nat.add_comm, this]
  apply Nat.eq_of_testBit_eq
  intro i
  rw [Nat.testBit_xor, Nat.testBit_or, Nat.testBit_two_pow_mul]
  by_cases hi : 8 ≤ i
  · have : a.testBit i = false := Nat.testBit_lt_two_pow (Nat.lt_of_lt_of_le h (Nat.pow_le_pow_right (n := 2) (by omega) hi))
    simp [this]
  · simp [hi]
/-- Bytes that stand next to each other, as a number, are turned into it at once. -/
theorem onL_getN : ∀ (l : List UInt8) (n : Nat), onL n l = stps (8 * l.length) (n ^^^ getN l)
  | [], n => by simp [onL, stps, getN]
  | b :: l, n => by
    have hb := b.toNat_lt
    rw [onL_cons, onL_getN l, stp8_eq]
    have h : getN (b :: l) = b.toNat ^^^ 256 * getN l := by rw [xor_add _ _ hb]; simp [getN]; try omega
    rw [h, show 8 * (b :: l).length = 8 + 8 * l.length by simp; omega, stps_add, ← Nat.xor_assoc, stps_xor 8 (n ^^^ b.toNat), show 256 * getN l = 2 ^ 8 * getN l by rfl, stps_shl]
end Go.Proofs.YtipiioggdalkoaaGreatDoor
