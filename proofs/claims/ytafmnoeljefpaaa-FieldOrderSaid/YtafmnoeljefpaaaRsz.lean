import Derived.Test.YtafmnoeljefpaaaFt7
/- How many raw values there are (of stage 4's text what stage 5 needs). -/
set_option linter.unusedVariables false
namespace Go.Proofs.Ytafmnoeljefpaaa.Js
mutual
/-- How many raw values there are. -/
def rsz : RT → Nat
  | .mk _ _ _ _ is => 1 + rszL is
def rszL : List RT → Nat
  | [] => 0
  | x :: r => rsz x + rszL r
end
end Go.Proofs.Ytafmnoeljefpaaa.Js
