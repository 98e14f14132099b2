/- What is proved here: the closed facts of the row of Lined. -/
import Derived.Test.YtpofmnfkdkmieaaGreatQ01
set_option linter.unusedVariables false
set_option linter.unusedSimpArgs false
namespace Go.Proofs.YtpofmnfkdkmieaaGreat
namespace lined
open Go
theorem band {a b:Bool} (ha:a=true) (hb:b=true):(a&&b)=true:=by rw [ha,hb];rfl
set_option maxRecDepth 100000 in
set_option maxHeartbeats 8000000 in
theorem closed:joinedFacts Tryz.prog 8 Tryz.f8 (Rows.OpenSpec.upto Rows.linedSpec).bare Rows.linedUptoRow=true:=by
 unfold joinedFacts;repeat refine band ?_ ?_
 all_goals as_aux_lemma=>kernel_rfl
theorem named:Tryz.prog.funcNamed Rows.linedUptoRow.func=some 8:=by kernel_rfl
theorem inst1:Tryz.f8.isInstance Tryz.prog Rows.linedUptoRow.origin Rows.linedUptoRow.targs:=of_decide_eq_true (by kernel_rfl)
theorem wrap1:Tryz.f8.isWrapper Tryz.prog Rows.linedUptoRow.wrapper Rows.linedUptoRow.mainSum:=by unfold Func.isWrapper;first | (rw [if_pos (by decide +kernel)];kernel_rfl) | (rw [if_neg (by decide +kernel)];exact ⟨J,J⟩)
end lined
end Go.Proofs.YtpofmnfkdkmieaaGreat
