/- What is proved here: ChecksUptoSaid: for every class of bulk  -/
import Derived.Test.YtpofmnfkdkmieaaGreatQ45
import Derived.Test.YtpofmnfkdkmieaaGreatQ46
set_option linter.unusedVariables false
set_option linter.unusedSimpArgs false
namespace Go.Proofs.YtpofmnfkdkmieaaGreat
namespace checks
open Go Go.RowKit Go.ChangeShapes Go.WideShapes Go.ChangeAt
set_option maxRecDepth 100000 in
theorem lifted (os:Os) (started:os.Started) (H:Type) (enc:TypeId × Value→H) (F:Stop.Interp) :
  ReturnsInHanded {} Tryz.checked os 4 .any ((Rows.OpenSpec.upto Rows.checksSpec).pre6 enc Tryz.prog Tryz.f4 Rows.checksUptoRow.domain false) (((Rows.OpenSpec.upto Rows.checksSpec).at F).post enc Tryz.prog Tryz.f4 false true false false):=by
 refine returnsInHanded_of_cond (C:=Tryz.checked) (s:=Rows.OpenSpec.upto Rows.checksSpec) (k:=Rows.uptoSmall) J own started (by kernel_rfl) Tryz.func4
  (OpenSpec.witness (enc:=enc) (C:=Tryz.checked) (s:=Rows.OpenSpec.upto Rows.checksSpec) (k:=Rows.uptoSmall) rfl false ⟨#[],#[.agg #[.string .empty,.string .empty,.slice none 0 0,.slice none 0 0]],[]⟩ 8 (by kernel_rfl) (by kernel_rfl) (by kernel_rfl)
   (x:=([.agg [.lit (.string []),.lit (.string []),.nil,.nil]],[],[])) (by kernel_rfl) rfl (by kernel_rfl)) ?_
 intro W base args ds gs before hval hW _ hk _;exact contract H enc W base args ds gs before hval hW hk
end checks
section
open Go
theorem checksUpto_holds:Rows.ChecksUptoSaid :=
 OpenClaim.holds_of_cond 4 Tryz.f4 rfl rfl rfl rfl rfl rfl rfl ⟨rfl,rfl,rfl,rfl,rfl⟩ rfl rfl rfl rfl rfl checks.named Tryz.func4 checks.closed
  checks.inst1 checks.wrap1 (fun os started H enc _ F=>checks.lifted os started H enc F)
end
end Go.Proofs.YtpofmnfkdkmieaaGreat
