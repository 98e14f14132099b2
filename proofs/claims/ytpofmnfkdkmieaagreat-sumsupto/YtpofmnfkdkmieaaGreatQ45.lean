/- What is proved here: the law Sums (a method that only reckons prints and ends as its own reckoning says, and is refused where its stack is not deep enough) returns true for every argument up to the size that the row states; no other condition. -/
import Derived.Test.YtpofmnfkdkmieaaGreatQ43
import Derived.Test.YtpofmnfkdkmieaaGreatQ44
set_option linter.unusedVariables false
set_option linter.unusedSimpArgs false
namespace Go.Proofs.YtpofmnfkdkmieaaGreat
namespace sums
open Go Go.RowKit Go.ChangeShapes Go.WideShapes Go.ChangeAt
set_option maxRecDepth 100000 in
theorem lifted (os:Os) (started:os.Started) (H:Type) (enc:TypeId × Value->H) (F:Stop.Interp) :
  ReturnsInHanded {} Tryz.checked os 7 .any ((Rows.OpenSpec.upto Rows.sumsSpec).pre6 enc Tryz.prog Tryz.f7 Rows.sumsUptoRow.domain false) (((Rows.OpenSpec.upto Rows.sumsSpec).at F).post enc Tryz.prog Tryz.f7 false true false false):=by
 refine returnsInHanded_of_cond (C:=Tryz.checked) (s:=Rows.OpenSpec.upto Rows.sumsSpec) (k:=Rows.uptoSmall) J own started (by kernel_rfl) Tryz.func7
  (OpenSpec.witness (enc:=enc) (C:=Tryz.checked) (s:=Rows.OpenSpec.upto Rows.sumsSpec) (k:=Rows.uptoSmall) rfl false ⟨#[],#[.slice none 0 0,.slice none 0 0,.int .i64 0],[]⟩ 8 (by kernel_rfl) (by kernel_rfl) (by kernel_rfl)
   (x:=([.nil,.nil,.lit (.int .i64 0)],[],[])) (by kernel_rfl) rfl (by kernel_rfl)) ?_
 intro W base args ds gs before hval hW _ hk _;exact Ztk H enc W base args ds gs before hval hW hk
end sums
section
open Go
theorem sumsUpto_holds:Rows.SumsUptoSaid :=
 OpenClaim.holds_of_cond 7 Tryz.f7 rfl rfl rfl rfl rfl rfl rfl ⟨rfl,rfl,rfl,rfl,rfl⟩ rfl rfl rfl rfl rfl sums.named Tryz.func7 sums.closed
  sums.inst1 sums.wrap1 (fun os started H enc _ F=>sums.lifted os started H enc F)
end
end Go.Proofs.YtpofmnfkdkmieaaGreat
