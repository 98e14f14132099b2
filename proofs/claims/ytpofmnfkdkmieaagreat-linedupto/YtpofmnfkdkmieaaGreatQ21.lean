/- What is proved here: the table of what each operation asks of -/
import Derived.Test.YtpofmnfkdkmieaaGreatQ14
import Derived.Test.YtpofmnfkdkmieaaGreatQ15
set_option linter.unusedVariables false
set_option linter.unusedSimpArgs false
namespace Go.Proofs.YtpofmnfkdkmieaaGreat
namespace S
open Go Go.RowKit E
section
set_option maxRecDepth 100000
variable {N:Nat}
noncomputable def opsK:Option Rs:=R1 3000 (.call 104 [] (stOf []))
theorem opsK_ok:isV opsK=true:=by kernel_rfl
noncomputable def tabK (N:Nat):List SV:=X3 (rho [] N) (tabOf ((rsS opsK).get 94))
abbrev oL (v:SV):List SV:=[.v .nilFunc,v,Zb false,Zb false]
abbrev oT (v:SV):List SV:=[v,.v .nilFunc,Zb false,Zb false]
theorem tabK_2:cutAt (tabK N) (0+2*4) 4=oL (.fn 144 [] []):=by kernel_rfl
theorem tabK_3:cutAt (tabK N) (0+3*4) 4=oT (.fn 145 [] []):=by kernel_rfl
theorem tabK_4:cutAt (tabK N) (0+4*4) 4=oT (.fn 146 [] []):=by kernel_rfl
theorem tabK_22:cutAt (tabK N) (0+22*4) 4=[.fn 156 [] [],.v .nilFunc,Zb false,Zb true]:=by kernel_rfl
end
end S
end Go.Proofs.YtpofmnfkdkmieaaGreat
