/- What is proved here: LinedUptoSaid: for all lists of ints and -/
import Derived.Test.YtpofmnfkdkmieaaGreatQ44
import Derived.Test.YtpofmnfkdkmieaaGreatQ45
set_option linter.unusedVariables false
set_option linter.unusedSimpArgs false
namespace Go.Proofs.YtpofmnfkdkmieaaGreat
namespace lined
open Go Go.RowKit Go.ChangeShapes Go.WideShapes Go.ChangeAt
set_option maxRecDepth 100000 in
theorem lifted (os:Os) (started:os.Started) (H:Type) (enc:TypeId × Value->H) (F:Stop.Interp) :
  ReturnsInHanded {} Tryz.checked os 8 .any ((Rows.OpenSpec.upto Rows.linedSpec).pre6 enc Tryz.prog Tryz.f8 Rows.linedUptoRow.domain false) (((Rows.OpenSpec.upto Rows.linedSpec).at F).post enc Tryz.prog Tryz.f8 false true false false):=by
 refine returnsInHanded_of_cond (C:=Tryz.checked) (s:=Rows.OpenSpec.upto Rows.linedSpec) (k:=Rows.uptoSmall) J own started (by kernel_rfl) Tryz.func8
  (OpenSpec.witness (enc:=enc) (C:=Tryz.checked) (s:=Rows.OpenSpec.upto Rows.linedSpec) (k:=Rows.uptoSmall) rfl false ⟨#[],#[.slice none 0 0,.int .i64 0],[]⟩ 8 (by kernel_rfl) (by kernel_rfl) (by kernel_rfl)
   (x:=([.nil,.lit (.int .i64 0)],[],[])) (by kernel_rfl) rfl (by kernel_rfl)) ?_
 intro W base args ds gs before hval hW _ hk _;exact Zdx H enc W base args ds gs before hval hW hk
end lined
section
open Go
theorem linedUpto_holds:Rows.LinedUptoSaid :=
 OpenClaim.holds_of_cond 8 Tryz.f8 rfl rfl rfl rfl rfl rfl rfl ⟨rfl,rfl,rfl,rfl,rfl⟩ rfl rfl rfl rfl rfl lined.named Tryz.func8 lined.closed
  lined.inst1 lined.wrap1 (fun os started H enc _ F=>lined.lifted os started H enc F)
end
end Go.Proofs.YtpofmnfkdkmieaaGreat
