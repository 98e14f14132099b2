/- What is proved here: the closed facts of the row of Forms. -/
import Derived.Test.YtpofmnfkdkmieaaGreatQ41
set_option linter.unusedVariables false
set_option linter.unusedSimpArgs false
namespace Go.Proofs.YtpofmnfkdkmieaaGreat.forms
open Go
theorem band {a b : Bool} (ha : a = true) (hb : b = true) : (a && b) = true := by rw [ha, hb]; rfl
set_option maxRecDepth 100000 in
set_option maxHeartbeats 8000000 in
theorem closed : joinedFacts Tryz.prog 3 Tryz.f3 (Rows.OpenSpec.upto Rows.formsSpec).bare Rows.formsUptoRow = true := by
 unfold joinedFacts
 repeat refine band ?_ ?_
 all_goals as_aux_lemma => kernel_rfl
theorem named : Tryz.prog.funcNamed Rows.formsUptoRow.func = some 3 := by kernel_rfl
theorem inst1 : Tryz.f3.isInstance Tryz.prog Rows.formsUptoRow.origin Rows.formsUptoRow.targs := of_decide_eq_true (by kernel_rfl)
theorem wrap1 : Tryz.f3.isWrapper Tryz.prog Rows.formsUptoRow.wrapper Rows.formsUptoRow.mainSum := by unfold Func.isWrapper; first | (rw [if_pos (by decide +kernel)]; kernel_rfl) | (rw [if_neg (by decide +kernel)]; exact ⟨rfl, rfl⟩)
end Go.Proofs.YtpofmnfkdkmieaaGreat.forms
