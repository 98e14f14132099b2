/- What is proved here: the closed facts of the row of Checks. -/
import Derived.Test.YtpofmnfkdkmieaaGreatQ26
set_option linter.unusedVariables false
set_option linter.unusedSimpArgs false
namespace Go.Proofs.YtpofmnfkdkmieaaGreat
namespace checks
open Go
theorem band {a b:Bool} (ha:a=true) (hb:b=true):(a&&b)=true:=by rw [ha,hb];rfl
set_option maxRecDepth 100000 in
set_option maxHeartbeats 8000000 in
theorem closed:joinedFacts Tryz.prog 4 Tryz.f4 (Rows.OpenSpec.upto Rows.checksSpec).bare Rows.checksUptoRow=true:=by
 unfold joinedFacts;repeat refine band ?_ ?_
 all_goals as_aux_lemma=>kernel_rfl
theorem named:Tryz.prog.funcNamed Rows.checksUptoRow.func=some 4:=by kernel_rfl
theorem inst1:Tryz.f4.isInstance Tryz.prog Rows.checksUptoRow.origin Rows.checksUptoRow.targs:=of_decide_eq_true (by kernel_rfl)
theorem wrap1:Tryz.f4.isWrapper Tryz.prog Rows.checksUptoRow.wrapper Rows.checksUptoRow.mainSum:=by unfold Func.isWrapper;(rw [if_neg (by decide +kernel)];exact ⟨J,J⟩)
end checks
end Go.Proofs.YtpofmnfkdkmieaaGreat
