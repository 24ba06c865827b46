/- What the texts behind this one rest on: several texts in one. No statement of the seat is proved here. -/
import Derived.Test.YtnjcegkefjdgdaaDoorG2
import Derived.Test.YtnjcegkefjdgdaaDoorValid
import Derived.Test.YtnjcegkefjdgdaaDoorG4
namespace Go.Proofs.YtnjcegkefjdgdaaDoor
section
open Go.RowKit

theorem loads_sample : ascB [0, 4591870180066957722, 4605380978949069210, 4607632778762754458, 9218868437227405312] = true := by decide +kernel
end

section
open Go.RowKit
end
end Go.Proofs.YtnjcegkefjdgdaaDoor
