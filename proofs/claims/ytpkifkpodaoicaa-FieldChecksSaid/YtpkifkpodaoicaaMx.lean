import Derived.Test.YtpkifkpodaoicaaFa
/- The program draws its orders. -/
set_option linter.unusedVariables false
namespace Go.Proofs.Ytpkifkpodaoicaa.Js
theorem mixed5 : Try.prog.follows .mixedOrders = true := by kernel_rfl
end Go.Proofs.Ytpkifkpodaoicaa.Js
