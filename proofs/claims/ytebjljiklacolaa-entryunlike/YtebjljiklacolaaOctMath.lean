/- The plain mathematics of octet's laws: lists of bytes. -/
import Derived.Test.YtebjljiklacolaaOctPair
import Derived.Test.YtebjljiklacolaaOctOnes
import Derived.Test.YtebjljiklacolaaOctGet
namespace Go.Proofs.Ytebjljiklacolaa
set_option linter.unusedVariables false

theorem not_and8 (x y : UInt8) : ~~~(x &&& y) = ~~~x ||| ~~~y := by
  apply UInt8.toBitVec_inj.1
  simp only [UInt8.toBitVec_not, UInt8.toBitVec_and, UInt8.toBitVec_or]
  exact BitVec.not_and
theorem not_or8 (x y : UInt8) : ~~~(x ||| y) = ~~~x &&& ~~~y := by
  apply UInt8.toBitVec_inj.1
  simp only [UInt8.toBitVec_not, UInt8.toBitVec_and, UInt8.toBitVec_or]
  exact BitVec.not_or
theorem notL_notL (l : List UInt8) : notL (notL l) = l := by
  simp [notL, Function.comp_def]
theorem pairL_twice (f : UInt8 → UInt8 → UInt8) (h : ∀ x y, f (f x y) y = x) : ∀ a b, pairL f (pairL f a b) b = a
  | [], _ => rfl
  | x :: r, [] => rfl
  | x :: r, y :: q => by simp [pairL, h, pairL_twice f h r q]
theorem pairL_self (f : UInt8 → UInt8 → UInt8) (h : ∀ x, f x x = x) : ∀ a, pairL f a a = a
  | [] => rfl
  | x :: r => by simp [pairL, h, pairL_self f h r]
theorem pairL_comm (f : UInt8 → UInt8 → UInt8) (h : ∀ x y, f x y = f y x) : ∀ a b, a.length = b.length → pairL f a b = pairL f b a
  | [], [], _ => rfl
  | x :: r, y :: q, e => by simp only [pairL]; rw [h x y, pairL_comm f h r q (by simpa using e)]
theorem notL_pairL (f g : UInt8 → UInt8 → UInt8) (h : ∀ x y, ~~~(f x y) = g (~~~x) (~~~y)) : ∀ a b, a.length = b.length → notL (pairL f a b) = pairL g (notL a) (notL b)
  | [], [], _ => rfl
  | x :: r, y :: q, e => by
    have := notL_pairL f g h r q (by simpa using e)
    simp only [notL, pairL, List.map_cons] at this ⊢
    rw [this, h]
theorem pairL_append (f : UInt8 → UInt8 → UInt8) : ∀ a b c d, a.length = b.length → pairL f (a ++ c) (b ++ d) = pairL f a b ++ pairL f c d
  | [], [], c, d, _ => rfl
  | x :: r, y :: q, c, d, e => by simp [pairL, pairL_append f r q c d (by simpa using e)]
theorem notL_append (a b : List UInt8) : notL (a ++ b) = notL a ++ notL b := by simp [notL]
theorem absorb (f g : UInt8 → UInt8 → UInt8) (h : ∀ x y, f x (g x y) = x) : ∀ a b, a.length = b.length → pairL f a (pairL g a b) = a
  | [], [], _ => rfl
  | x :: r, y :: q, e => by simp [pairL, h, absorb f g h r q (by simpa using e)]
theorem distr (f g : UInt8 → UInt8 → UInt8) (h : ∀ x y z, f x (g y z) = g (f x y) (f x z)) : ∀ a b c, a.length = b.length → a.length = c.length → pairL f a (pairL g b c) = pairL g (pairL f a b) (pairL f a c)
  | [], [], [], _, _ => rfl
  | x :: r, y :: q, z :: s, e1, e2 => by simp [pairL, h, distr f g h r q s (by simpa using e1) (by simpa using e2)]

theorem pop_bits (x : UInt8) : popB x = (x.toNat.testBit 0).toNat + (x.toNat.testBit 1).toNat + (x.toNat.testBit 2).toNat + (x.toNat.testBit 3).toNat + (x.toNat.testBit 4).toNat + (x.toNat.testBit 5).toNat + (x.toNat.testBit 6).toNat + (x.toNat.testBit 7).toNat := by
  have h : ∀ n : Fin 256, Lib.onesCount n.val = (n.val.testBit 0).toNat + (n.val.testBit 1).toNat + (n.val.testBit 2).toNat + (n.val.testBit 3).toNat + (n.val.testBit 4).toNat + (n.val.testBit 5).toNat + (n.val.testBit 6).toNat + (n.val.testBit 7).toNat := by decide +kernel
  exact h ⟨x.toNat, x.toNat_lt⟩
theorem bool_and_or (a b : Bool) : (a && b).toNat + (a || b).toNat = a.toNat + b.toNat := by cases a <;> cases b <;> rfl
theorem bool_xor (a b : Bool) : (a ^^ b).toNat + (a && b).toNat = (a || b).toNat := by cases a <;> cases b <;> rfl
theorem pop_and_or (x y : UInt8) : popB (x &&& y) + popB (x ||| y) = popB x + popB y := by
  simp only [pop_bits, UInt8.toNat_and, UInt8.toNat_or, Nat.testBit_and, Nat.testBit_or]
  have := fun i => bool_and_or (x.toNat.testBit i) (y.toNat.testBit i)
  have h0 := this 0; have h1 := this 1; have h2 := this 2; have h3 := this 3; have h4 := this 4; have h5 := this 5; have h6 := this 6; have h7 := this 7
  omega
theorem pop_xor (x y : UInt8) : popB (x ^^^ y) + popB (x &&& y) = popB (x ||| y) := by
  simp only [pop_bits, UInt8.toNat_and, UInt8.toNat_or, UInt8.toNat_xor, Nat.testBit_and, Nat.testBit_or, Nat.testBit_xor]
  have := fun i => bool_xor (x.toNat.testBit i) (y.toNat.testBit i)
  have h0 := this 0; have h1 := this 1; have h2 := this 2; have h3 := this 3; have h4 := this 4; have h5 := this 5; have h6 := this 6; have h7 := this 7
  omega
theorem pop_not (x : UInt8) : popB x + popB (~~~x) = 8 := by
  have h : ∀ n : Fin 256, Lib.onesCount n.val + Lib.onesCount (255 - n.val) = 8 := by decide +kernel
  have := h ⟨x.toNat, x.toNat_lt⟩
  have e : (~~~x).toNat = 255 - x.toNat := by rw [UInt8.toNat_not]; simp only [UInt8.size]
  unfold popB
  rw [e]
  exact this
theorem count_and_or : ∀ a b : List UInt8, a.length = b.length → countL (pairL (· &&& ·) a b) + countL (pairL (· ||| ·) a b) = countL a + countL b
  | [], [], _ => rfl
  | x :: r, y :: q, e => by
    have := count_and_or r q (by simpa using e)
    have h := pop_and_or x y
    simp only [pairL, countL]
    omega
theorem count_xor : ∀ a b : List UInt8, a.length = b.length → countL (pairL (· ^^^ ·) a b) + countL (pairL (· &&& ·) a b) = countL (pairL (· ||| ·) a b)
  | [], [], _ => rfl
  | x :: r, y :: q, e => by
    have := count_xor r q (by simpa using e)
    have h := pop_xor x y
    simp only [pairL, countL]
    omega
theorem count_not : ∀ a : List UInt8, countL a + countL (notL a) = 8 * a.length
  | [] => rfl
  | x :: r => by
    have := count_not r
    have h := pop_not x
    simp only [notL, List.map_cons, countL, List.length_cons] at this ⊢
    omega
theorem count_ones (n : Nat) : countL (List.replicate n 255) = 8 * n := by
  induction n with
  | zero => rfl
  | succ n ih =>
    have h : popB 255 = 8 := by decide +kernel
    simp only [List.replicate_succ, countL, ih, h]
    omega
end Go.Proofs.Ytebjljiklacolaa
