/- What is proved here: FormsUptoSaid: for every class and all bytes of bulk at most 1048576 the statement Forms gives true, and both read behind the call as they read before. -/
import Derived.Test.YtpofmnfkdkmieaaGreatQ42
import Derived.Test.YtpofmnfkdkmieaaGreatQ43
set_option linter.unusedVariables false
set_option linter.unusedSimpArgs false
namespace Go.Proofs.YtpofmnfkdkmieaaGreat.forms
open Go Go.RowKit Go.ChangeShapes Go.WideShapes Go.ChangeAt
set_option maxRecDepth 100000 in
theorem lifted (os : Os) (started : os.Started) (H : Type) (enc : TypeId × Value → H) (F : Stop.Interp) :
  ReturnsInHanded {} Tryz.checked os 3 .any ((Rows.OpenSpec.upto Rows.formsSpec).pre6 enc Tryz.prog Tryz.f3 Rows.formsUptoRow.domain false) (((Rows.OpenSpec.upto Rows.formsSpec).at F).post enc Tryz.prog Tryz.f3 false true false false) := by
 refine returnsInHanded_of_cond (C := Tryz.checked) (s := Rows.OpenSpec.upto Rows.formsSpec) (k := Rows.uptoSmall) rfl own started (by kernel_rfl) Tryz.func3
  (OpenSpec.witness (enc := enc) (C := Tryz.checked) (s := Rows.OpenSpec.upto Rows.formsSpec) (k := Rows.uptoSmall) rfl false ⟨#[], #[.agg #[.string .empty, .string .empty, .slice none 0 0, .slice none 0 0], .string .empty], []⟩ 8 (by kernel_rfl) (by kernel_rfl) (by kernel_rfl)
   (x := ([.agg [.lit (.string []), .lit (.string []), .nil, .nil], .lit (.string [])], [], [])) (by kernel_rfl) rfl (by kernel_rfl)) ?_
 intro W base args ds gs before hval hW _ hk _
 exact contract H enc W base args ds gs before hval hW hk
end Go.Proofs.YtpofmnfkdkmieaaGreat.forms
namespace Go.Proofs.YtpofmnfkdkmieaaGreat
open Go
theorem formsUpto_holds : Rows.FormsUptoSaid :=
 OpenClaim.holds_of_cond 3 Tryz.f3 rfl rfl rfl rfl rfl rfl rfl ⟨rfl, rfl, rfl, rfl, rfl⟩ rfl rfl rfl rfl rfl forms.named Tryz.func3 forms.closed
  forms.inst1 forms.wrap1 (fun os started H enc _ F => forms.lifted os started H enc F)
end Go.Proofs.YtpofmnfkdkmieaaGreat
