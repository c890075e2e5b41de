/- Contract of octet.Get. -/
import Derived.Test.YtnjlefciekcehaaOctIter
namespace Go.Proofs.Ytnjlefciekcehaa
open Go.RowKit Go.Shelf
set_option linter.unusedVariables false
attribute [local go_sem] Oper.semAt_some

theorem newCell (W : World) (v : Value) (t : TypeId) : (W.alloc (.cells #[v] t)).cell? ⟨W.heap.size, 0, none⟩ = some v ∧ (W.alloc (.cells #[v] t)).frozen? ⟨W.heap.size, 0, none⟩ = false :=
  ⟨by rw [World.cell?_alloc_new]; rfl, World.frozen?_alloc_new W _ _ _⟩
theorem oldCell {W : World} {a : Addr} {v : Value} (o : Obj) (h : W.cell? a = some v) : (W.alloc o).cell? a = some v :=
  cell_kept h (World.grownBy_alloc W o none) (fun r e => by cases e)
theorem oldFree {W : World} {a : Addr} {v : Value} (o : Obj) (h : W.cell? a = some v) (hf : W.frozen? a = false) : (W.alloc o).frozen? a = false :=
  (frozen_kept h (World.grownBy_alloc W o none) (fun r e => by cases e)).trans hf

/-- The digits, put together one by one. -/
def valOf (pre : List Dig) : Nat := pre.foldl (fun n x => n ||| (x.2.toNat <<< (8 * x.1.val))) 0
theorem valOf_snoc (pre : List Dig) (x : Dig) : valOf (pre ++ [x]) = valOf pre ||| (x.2.toNat <<< (8 * x.1.val)) := by simp [valOf]
theorem dig_lt (x : Dig) : x.2.toNat <<< (8 * x.1.val) < 2 ^ 56 := by
  have h1 := x.2.toNat_lt
  have h2 := x.1.isLt
  rw [Nat.shiftLeft_eq]
  calc x.2.toNat * 2 ^ (8 * x.1.val) < 2 ^ 8 * 2 ^ (8 * x.1.val) := Nat.mul_lt_mul_of_pos_right h1 (Nat.pow_pos (by omega))
    _ = 2 ^ (8 + 8 * x.1.val) := by rw [Nat.pow_add]
    _ ≤ 2 ^ 56 := Nat.pow_le_pow_right (by omega) (by omega)
theorem valOf_lt (pre : List Dig) : valOf pre < 2 ^ 56 := by
  have h : ∀ (pre : List Dig) (n : Nat), n < 2 ^ 56 → pre.foldl (fun n x => n ||| (x.2.toNat <<< (8 * x.1.val))) n < 2 ^ 56 := by
    intro pre
    induction pre with
    | nil => intro n hn; exact hn
    | cons x r ih => intro n hn; exact ih _ (Nat.or_lt_two_pow hn (dig_lt x))
  exact h pre 0 (by decide)

theorem i64_or_nat (a b : Nat) (ha : a < 2 ^ 56) (hb : b < 2 ^ 56) : bits .or .i64 (a : Int) (b : Int) = ((a ||| b : Nat) : Int) := by
  have hab : a ||| b < 2 ^ 56 := Nat.or_lt_two_pow ha hb
  have e1 : (BitVec.ofInt 64 (a : Int) ||| BitVec.ofInt 64 (b : Int)).toNat = a ||| b := by
    rw [BitVec.toNat_or, ofInt_u64 a (by omega), ofInt_u64 b (by omega)]
  show IntKind.i64.wrap (((BitVec.ofInt 64 (a : Int) ||| BitVec.ofInt 64 (b : Int)).toNat : Nat) : Int) = _
  rw [e1]
  exact IntWalk.i64_in _ (by omega)

theorem valOf_step (pre : List Dig) (x : Dig) :
    bits .or .i64 (valOf pre : Int) (IntKind.i64.wrap ((x.2.toNat : Int) * 2 ^ (8 * (x.1.val : Int)).toNat)) = (valOf (pre ++ [x]) : Int) := by
  have e : ((x.2.toNat : Int) * 2 ^ (8 * (x.1.val : Int)).toNat) = ((x.2.toNat <<< (8 * x.1.val) : Nat) : Int) := by
    rw [show (8 * (x.1.val : Int)).toNat = 8 * x.1.val by omega, Nat.shiftLeft_eq]
    simp
  have h := dig_lt x
  rw [valOf_snoc, e]
  generalize x.2.toNat <<< (8 * x.1.val) = q at h ⊢
  rw [IntWalk.i64_in _ (by omega), i64_or_nat _ _ (valOf_lt pre) h]

theorem boxKept_t (b : Nat) {A B C : World} (h : BoxKept b A B) (k : BoxKept b B C) : BoxKept b A C := k.trans h
theorem boxKept_put (b m : Nat) (hb : b < m) (W : World) (l : Nat) (o o' : Obj) (h : m ≤ l) (_ : W.heap[l]? = some o) (_ : o.isCells = false) (_ : o.isWalk = false) : BoxKept b W (W.putObj l o') := by
  refine World.cell?_of_block (w := W) ?_
  simp [World.putObj, Array.getElem?_setIfInBounds]
  omega

theorem mixed : Try.prog.follows .mixedOrders = true := by kernel_rfl

/-- The number that bytes are, the lowest ones first. -/
def getN : List UInt8 → Nat
  | [] => 0
  | b :: r => b.toNat + 256 * getN r

theorem getN_lt : ∀ l : List UInt8, getN l < 256 ^ l.length
  | [] => by simp [getN]
  | b :: r => by
    have h := getN_lt r
    have hb := b.toNat_lt
    simp only [getN, List.length_cons, Nat.pow_succ]
    omega

theorem getN_append : ∀ a b : List UInt8, getN (a ++ b) = getN a + 256 ^ a.length * getN b
  | [], b => by simp [getN]
  | x :: a, b => by
    simp only [List.cons_append, getN, getN_append a b, List.length_cons, Nat.pow_succ, Nat.mul_add]
    rw [show 256 ^ a.length * 256 * getN b = 256 * (256 ^ a.length * getN b) by rw [Nat.mul_comm (256 ^ a.length) 256, Nat.mul_assoc]]
    omega

theorem valOf_digs (l : List UInt8) (h : l.length ≤ 7) : ∀ k, k ≤ l.length → valOf (digs l h k) = getN (l.take k)
  | 0, _ => rfl
  | k + 1, hk => by
    have ih := valOf_digs l h k (by omega)
    have hlt := getN_lt (l.take k)
    rw [digs_succ l h k (by omega), valOf_snoc, ih, List.take_succ_eq_append_getElem (by omega), getN_append]
    have hl : (l.take k).length = k := by simp; omega
    rw [hl] at hlt ⊢
    simp only [digAt, getN, Nat.mul_zero, Nat.add_zero]
    rw [Nat.shiftLeft_eq, Nat.or_comm, nat_join (8 * k) _ _ (by simp) (by rw [pow8]; exact hlt), pow8, Nat.mul_comm (l[k].toNat)]
    omega

def okGet (s : ByteArray) (at_ wd : Int) : Bool := decide (0 ≤ at_) && decide (at_ ≤ (s.size : Int) - wd)
def getV (s : ByteArray) (at_ wd : Int) : Int := if isWidthB wd = true ∧ okGet s at_ wd = true then (getN ((s.data.toList.drop at_.toNat).take wd.toNat) : Int) else 0
def getE (s : ByteArray) (at_ wd : Int) : Int := if isWidthB wd = true then (if okGet s at_ wd = true then 0 else 2) else 1

end Go.Proofs.Ytnjlefciekcehaa
