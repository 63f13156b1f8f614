import Derived.Test.YtkmiemaigalgpaaFa
/- The program draws its orders. -/
set_option linter.unusedVariables false
namespace Go.Proofs.Ytkmiemaigalgpaa.Js
theorem mixed5 : Try.prog.follows .mixedOrders = true := by kernel_rfl
end Go.Proofs.Ytkmiemaigalgpaa.Js
