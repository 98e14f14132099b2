/- What is proved here: RereadUptoSaid: for every class, all bytes and each byte of bulk at most 1048576 the statement Reread gives true, and they read behind the call as they read before. -/
import Derived.Test.YtpofmnfkdkmieaaGreatQ35
import Derived.Test.YtpofmnfkdkmieaaGreatQ36
set_option linter.unusedVariables false
set_option linter.unusedSimpArgs false
namespace Go.Proofs.YtpofmnfkdkmieaaGreat.reread
open Go Go.RowKit Go.ChangeShapes Go.WideShapes Go.ChangeAt

set_option maxRecDepth 100000 in
theorem lifted (os : Os) (started : os.Started) (H : Type) (enc : TypeId × Value → H) (F : Stop.Interp) :
    ReturnsInHanded {} Tryz.checked os 6 .any ((Rows.OpenSpec.upto Rows.rereadSpec).pre6 enc Tryz.prog Tryz.f6 Rows.rereadUptoRow.domain false) (((Rows.OpenSpec.upto Rows.rereadSpec).at F).post enc Tryz.prog Tryz.f6 false true false false) := by
  refine returnsInHanded_of_cond (C := Tryz.checked) (s := Rows.OpenSpec.upto Rows.rereadSpec) (k := Rows.uptoSmall) rfl own started (by kernel_rfl) Tryz.func6
    (OpenSpec.witness (enc := enc) (C := Tryz.checked) (s := Rows.OpenSpec.upto Rows.rereadSpec) (k := Rows.uptoSmall) rfl false ⟨#[], #[.agg #[.string .empty, .string .empty, .slice none 0 0, .slice none 0 0], .string .empty, .int .u8 0], []⟩ 8 (by kernel_rfl) (by kernel_rfl) (by kernel_rfl)
      (x := ([.agg [.lit (.string []), .lit (.string []), .nil, .nil], .lit (.string []), .lit (.int .u8 0)], [], [])) (by kernel_rfl) rfl (by kernel_rfl)) ?_
  intro W base args ds gs before hval hW _ hk _
  exact contract H enc W base args ds gs before hval hW hk
end Go.Proofs.YtpofmnfkdkmieaaGreat.reread
namespace Go.Proofs.YtpofmnfkdkmieaaGreat
open Go
theorem rereadUpto_holds : Rows.RereadUptoSaid :=
  OpenClaim.holds_of_cond 6 Tryz.f6 rfl rfl rfl rfl rfl rfl rfl ⟨rfl, rfl, rfl, rfl, rfl⟩ rfl rfl rfl rfl rfl reread.named Tryz.func6 reread.closed
    reread.inst1 reread.wrap1 (fun os started H enc _ F => reread.lifted os started H enc F)
end Go.Proofs.YtpofmnfkdkmieaaGreat
