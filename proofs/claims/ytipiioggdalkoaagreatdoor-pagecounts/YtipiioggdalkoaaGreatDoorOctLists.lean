/- octet's contracts over lists of bytes. -/
import Derived.Test.YtipiioggdalkoaaGreatDoorOctMath
namespace Go.Proofs.YtipiioggdalkoaaGreatDoor
open Go.RowKit
set_option linter.unusedVariables false

theorem str_eta (a : ByteArray) : a = ⟨a.data.toList.toArray⟩ := by cases a; simp
theorem size_mk (l : List UInt8) : (ByteArray.mk l.toArray).size = l.length := by simp [ByteArray.size]

theorem and_l (a b : List UInt8) (w : World) (ha : a.length ≤ 1000000000) (hb : b.length ≤ 1000000000) :
    Calls Tryz.prog 95 #[.string ⟨a.toArray⟩, .string ⟨b.toArray⟩] w fun e w' => e = .returned (.string ⟨(pairL (· &&& ·) a b).toArray⟩) ∧ Below w.heap.size w w' :=
  and_any _ _ w (by rw [size_mk]; exact ha) (by rw [size_mk]; exact hb)
theorem xor_l (a b : List UInt8) (w : World) (ha : a.length ≤ 1000000000) (hb : b.length ≤ 1000000000) :
    Calls Tryz.prog 94 #[.string ⟨a.toArray⟩, .string ⟨b.toArray⟩] w fun e w' => e = .returned (.string ⟨(pairL (· ^^^ ·) a b).toArray⟩) ∧ Below w.heap.size w w' :=
  xor_any _ _ w (by rw [size_mk]; exact ha) (by rw [size_mk]; exact hb)
theorem not_l (a : List UInt8) (w : World) (ha : a.length ≤ 1000000000) :
    Calls Tryz.prog 56 #[.string ⟨a.toArray⟩] w fun e w' => e = .returned (.string ⟨(notL a).toArray⟩) ∧ Below w.heap.size w w' :=
  not_any _ w (by rw [size_mk]; exact ha)
end Go.Proofs.YtipiioggdalkoaaGreatDoor
