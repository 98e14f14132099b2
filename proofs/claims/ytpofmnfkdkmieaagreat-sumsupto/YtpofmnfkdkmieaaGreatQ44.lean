/- What is proved here: the closed facts of the row of Sums. -/
import Derived.Test.YtpofmnfkdkmieaaGreatQ11
set_option linter.unusedVariables false
set_option linter.unusedSimpArgs false
namespace Go.Proofs.YtpofmnfkdkmieaaGreat
namespace sums
open Go
theorem band {a b:Bool} (ha:a=true) (hb:b=true):(a&&b)=true:=by rw [ha,hb];rfl
set_option maxRecDepth 100000 in
set_option maxHeartbeats 8000000 in
theorem closed:joinedFacts Tryz.prog 7 Tryz.f7 (Rows.OpenSpec.upto Rows.sumsSpec).bare Rows.sumsUptoRow=true:=by
 unfold joinedFacts;repeat refine band ?_ ?_
 all_goals as_aux_lemma=>kernel_rfl
theorem named:Tryz.prog.funcNamed Rows.sumsUptoRow.func=some 7:=by kernel_rfl
theorem inst1:Tryz.f7.isInstance Tryz.prog Rows.sumsUptoRow.origin Rows.sumsUptoRow.targs:=of_decide_eq_true (by kernel_rfl)
theorem wrap1:Tryz.f7.isWrapper Tryz.prog Rows.sumsUptoRow.wrapper Rows.sumsUptoRow.mainSum:=by unfold Func.isWrapper;first | (rw [if_pos (by decide +kernel)];kernel_rfl) | (rw [if_neg (by decide +kernel)];exact ⟨J,J⟩)
end sums
end Go.Proofs.YtpofmnfkdkmieaaGreat
