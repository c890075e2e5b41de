/- octet's contracts over lists of bytes. -/
import Derived.Test.YtebjljiklacolaaOctMath
namespace Go.Proofs.Ytebjljiklacolaa
open Go.RowKit
set_option linter.unusedVariables false

theorem str_eta (a : ByteArray) : a = ⟨a.data.toList.toArray⟩ := by cases a; simp
theorem size_mk (l : List UInt8) : (ByteArray.mk l.toArray).size = l.length := by simp [ByteArray.size]

end Go.Proofs.Ytebjljiklacolaa
