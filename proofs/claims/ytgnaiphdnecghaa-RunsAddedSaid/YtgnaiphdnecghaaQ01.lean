/- The reference of layer word, over values without addresses: Same. -/
import Derived.Test.YtgnaiphdnecghaaEnc
import Derived.Test.YtgnaiphdnecghaaTypes
import Derived.Test.YtgnaiphdnecghaaProg
set_option linter.unusedSimpArgs false
set_option linter.unusedVariables false
set_option maxRecDepth 100000
namespace Go.Proofs.Ytgnaiphdnecghaa.Abs
open Go.RowKit
theorem take_more {α : Type} {l m : List α} {k : Nat} {x : α} (ht : l.take k = m.take k) (hx : l[k]? = some x) (hy : m[k]? = some x) : l.take (k + 1) = m.take (k + 1) := by
  rw [List.take_add_one, List.take_add_one, ht, hx, hy]
theorem take_all {α : Type} {l m : List α} (h : l.length = m.length) (ht : l.take l.length = m.take l.length) : l = m := by
  rw [List.take_length, h, List.take_length] at ht
  exact ht
end Go.Proofs.Ytgnaiphdnecghaa.Abs
