/- What is proved here: closed facts of the program. -/
import Derived.Test.YtpofmnfkdkmieaaGreatQ20
set_option linter.unusedVariables false
set_option linter.unusedSimpArgs false
namespace Go.Proofs.YtpofmnfkdkmieaaGreat.reread
open Go Go.RowKit Go.ChangeShapes Go.WideShapes Go.ChangeAt At E

theorem own : ownKnob Tryz.prog.godebug = none := by kernel_rfl
theorem laid : laidOutB Tryz.prog = true := by kernel_rfl
theorem pars : Tryz.f6.params = #[25, 9, 5] := by kernel_rfl
theorem ress : Tryz.f6.resultTypes = #[4] := by kernel_rfl
end Go.Proofs.YtpofmnfkdkmieaaGreat.reread
