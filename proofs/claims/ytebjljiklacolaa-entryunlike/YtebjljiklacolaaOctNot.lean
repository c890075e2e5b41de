/- Contract of octet.Not: all bits of all bytes turned. -/
import Derived.Test.YtebjljiklacolaaOctWalk1
import Derived.Deep.OwnRows
namespace Go.Proofs.Ytebjljiklacolaa
open Go.RowKit

theorem Try.infoU8 : (Try.prog.info? 5).map (fun i => (i.zero, i.size, i.bytes)) = some (some (.int .u8 0), 1, 1) := by kernel_rfl

/-- All bits turned. -/
def notL (l : List UInt8) : List UInt8 := l.map (fun b => ~~~b)

theorem length_notL (l : List UInt8) : (notL l).length = l.length := by simp [notL]

theorem not_u8 (x : UInt8) : bits .xor .u8 (if IntKind.u8.signed = true then -1 else IntKind.u8.max) (x.toNat : Int) = ((~~~x).toNat : Int) := by
  have e : (if IntKind.u8.signed = true then -1 else IntKind.u8.max) = (((255 : UInt8).toNat : Nat) : Int) := by decide
  rw [e, bits_xor_u8]
  rw [show (255 : UInt8) = -1 from rfl, UInt8.neg_one_xor]

end Go.Proofs.Ytebjljiklacolaa
