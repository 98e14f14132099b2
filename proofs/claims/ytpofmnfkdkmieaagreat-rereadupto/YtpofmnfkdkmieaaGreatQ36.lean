/- What is proved here: the closed facts of the row of Reread. -/
import Derived.Test.YtpofmnfkdkmieaaGreatQ21
set_option linter.unusedVariables false
set_option linter.unusedSimpArgs false
namespace Go.Proofs.YtpofmnfkdkmieaaGreat.reread
open Go

theorem band {a b : Bool} (ha : a = true) (hb : b = true) : (a && b) = true := by rw [ha, hb]; rfl
set_option maxRecDepth 100000 in
set_option maxHeartbeats 8000000 in
theorem closed : joinedFacts Tryz.prog 6 Tryz.f6 (Rows.OpenSpec.upto Rows.rereadSpec).bare Rows.rereadUptoRow = true := by
  unfold joinedFacts
  repeat refine band ?_ ?_
  all_goals as_aux_lemma => kernel_rfl
theorem named : Tryz.prog.funcNamed Rows.rereadUptoRow.func = some 6 := by kernel_rfl
theorem inst1 : Tryz.f6.isInstance Tryz.prog Rows.rereadUptoRow.origin Rows.rereadUptoRow.targs := of_decide_eq_true (by kernel_rfl)
theorem wrap1 : Tryz.f6.isWrapper Tryz.prog Rows.rereadUptoRow.wrapper Rows.rereadUptoRow.mainSum := by unfold Func.isWrapper; first | (rw [if_pos (by decide +kernel)]; kernel_rfl) | (rw [if_neg (by decide +kernel)]; exact ⟨rfl, rfl⟩)
end Go.Proofs.YtpofmnfkdkmieaaGreat.reread
