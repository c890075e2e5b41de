/- No library contract is wanted at this program. -/
import Derived.Test.YtfofapickblpaaaDoorProg
import Derived.Lib.BitFns
