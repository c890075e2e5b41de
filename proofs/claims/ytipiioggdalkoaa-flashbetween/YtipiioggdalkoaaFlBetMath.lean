/- A torn step leaves a page between what it was, and what it would be. Nothing of the program but its contracts' functions. -/
import Derived.Test.YtipiioggdalkoaaFlFuseMath
namespace Go.Proofs.Ytipiioggdalkoaa
set_option linter.unusedVariables false
set_option linter.unusedSimpArgs false

theorem byte_ext8 {x y : UInt8} (h : ∀ i, i < 8 → x.toBitVec.getLsbD i = y.toBitVec.getLsbD i) : x = y := UInt8.toBitVec_inj.1 (BitVec.eq_of_getLsbD_eq h)
/-- Byte by byte: what is done of a step. -/
def betB (x y m : UInt8) : UInt8 := x ^^^ ((x ^^^ y) &&& m)
theorem betB_and (x y m : UInt8) (h : y &&& x = y) : x &&& betB x y m = betB x y m ∧ betB x y m ||| y = betB x y m := by
  constructor
  · apply byte_ext8
    intro i hi
    have := congrArg (fun z : UInt8 => z.toBitVec.getLsbD i) h
    simp only [betB, UInt8.toBitVec_and, UInt8.toBitVec_xor, BitVec.getLsbD_and, BitVec.getLsbD_xor] at this ⊢
    cases hx : x.toBitVec.getLsbD i <;> cases hy : y.toBitVec.getLsbD i <;> cases hm : m.toBitVec.getLsbD i <;> simp [hx, hy] at this ⊢
  · apply byte_ext8
    intro i hi
    have := congrArg (fun z : UInt8 => z.toBitVec.getLsbD i) h
    simp only [betB, UInt8.toBitVec_and, UInt8.toBitVec_xor, UInt8.toBitVec_or, BitVec.getLsbD_and, BitVec.getLsbD_xor, BitVec.getLsbD_or] at this ⊢
    cases hx : x.toBitVec.getLsbD i <;> cases hy : y.toBitVec.getLsbD i <;> cases hm : m.toBitVec.getLsbD i <;> simp [hx, hy] at this ⊢
theorem betB_or (x m : UInt8) : x ||| betB x 255 m = betB x 255 m := by
  apply byte_ext8
  intro i hi
  have h1 : (255 : UInt8).toBitVec.getLsbD i = true := by
    have : ∀ j : Fin 8, (255 : UInt8).toBitVec.getLsbD j.val = true := by decide
    exact this ⟨i, hi⟩
  simp only [betB, UInt8.toBitVec_and, UInt8.toBitVec_xor, UInt8.toBitVec_or, BitVec.getLsbD_and, BitVec.getLsbD_xor, BitVec.getLsbD_or, h1]
  cases hx : x.toBitVec.getLsbD i <;> cases hm : m.toBitVec.getLsbD i <;> simp
def betL (p q m : List UInt8) : List UInt8 := pairL (· ^^^ ·) p (pairL (· &&& ·) (pairL (· ^^^ ·) p q) m)
theorem betL_cons (x y m : UInt8) (p q r : List UInt8) : betL (x :: p) (y :: q) (m :: r) = betB x y m :: betL p q r := by simp [betL, pairL, betB]
theorem betL_and : ∀ p q m : List UInt8, q.length = p.length → m.length = p.length → pairL (· &&& ·) q p = q → pairL (· &&& ·) p (betL p q m) = betL p q m ∧ pairL (· ||| ·) (betL p q m) q = betL p q m
  | [], [], _, _, _, _ => by simp [betL, pairL]
  | x :: p, y :: q, m :: r, h1, h2, h3 => by
    simp only [pairL, List.cons.injEq] at h3
    obtain ⟨a, b⟩ := betL_and p q r (by simpa using h1) (by simpa using h2) h3.2
    obtain ⟨c, d⟩ := betB_and x y m h3.1
    rw [betL_cons]
    simp only [pairL, a, b, c, d, and_self]
theorem betL_or : ∀ (p m : List UInt8), m.length = p.length → pairL (· ||| ·) p (betL p (List.replicate p.length 255) m) = betL p (List.replicate p.length 255) m
  | [], _, _ => by simp [betL, pairL]
  | x :: p, m :: r, h => by
    rw [List.length_cons, List.replicate_succ, betL_cons]
    simp only [pairL, betB_or, betL_or p r (by simpa using h)]
theorem between_betL (was would torn : List UInt8) : betweenL was would torn = betL was would (maskL torn was.length) := rfl
theorem prog_torn {D : Fl} {k n : Nat} {s : List UInt8} (h : hasB D (k : Int) = true) (hf : n + s.length ≤ (D.pages.getD k []).length) (hd : D.dead = false) (hz : D.fuse = 0) :
    progE D k n s = 8 ∧ progF D k n s = { D with pages := D.pages.set k (betweenL (D.pages.getD k []) (progL (D.pages.getD k []) n s) D.torn), dead := true } := by
  have hfi : fitsB D (k : Int) (n : Int) s = true := by unfold fitsB; simp only [Int.toNat_natCast, Bool.and_eq_true, decide_eq_true_eq]; omega
  constructor
  · unfold progE; simp [h, hfi, hd, hz]
  · unfold progF; simp only [h, hfi, hd, Int.toNat_natCast]; rw [if_neg (by simp), if_neg (by simp), if_neg (by simp), if_pos hz]
end Go.Proofs.Ytipiioggdalkoaa
