/- What is proved here: Sums gives true, over blocks of one's ow -/
import Derived.Test.YtpofmnfkdkmieaaGreatQ39
set_option linter.unusedVariables false
set_option linter.unusedSimpArgs false
namespace Go.Proofs.YtpofmnfkdkmieaaGreat

end Go.Proofs.YtpofmnfkdkmieaaGreat
