/- What is proved here: the table of what each operation asks of -/
import Derived.Test.YtpofmnfkdkmieaaGreatQ34
import Derived.Test.YtpofmnfkdkmieaaGreatQ28
set_option linter.unusedVariables false
set_option linter.unusedSimpArgs false
namespace Go.Proofs.YtpofmnfkdkmieaaGreat
namespace S
open Go Go.RowKit E
section
set_option maxRecDepth 100000
variable {N:Nat}
noncomputable def opsK:Option Rs:=R1 3000 (.call 104 [] (stOf []))
theorem opsK_ok:isV opsK=true:=by kernel_rfl
/-- The table, made when N places were taken. -/
noncomputable def tabK (N:Nat):List SV:=Te (rho [] N) (tabOf ((rsS opsK).get 94))
theorem Zdx:HF Tryz.prog 104 [] N [] fun u N' H'=>u=.sl (N+94) 0 33 0/\N'=N+115/\H'=[(N+94,.row 264 4 33 (tabK N)),(N+96,.cells nT),(N+11,.cells [.sl (N+4) 0 2 0]),(N+4,.row 71 2 2 (nT++nT)),(N+12,.cells nT),(N+106,.cells [.sl (N+63) 0 1 0]),(N+63,.row 71 2 1 nT),(N+107,.cells nT)]:=by
 have h:=G2 (bs:=[]) (N:=N) (G6 3000 _ _ (Hv opsK_ok)) rfl (by decide) (by kernel_rfl) (by kernel_rfl);have hv:ren (rho [] N) (rsV opsK)=.sl (N+94) 0 33 0:=by kernel_rfl
 have hn:N+((rsS opsK).n - ([]:List Nat).length)=N+115:=by kernel_rfl
 rw [show rsV (R1 3000 (.call 104 [] (stOf [])))=rsV opsK from rfl,hv] at h;rw [show rsS (R1 3000 (.call 104 [] (stOf [])))=rsS opsK from rfl,hn] at h;exact HF.less [17,18,4,2,5,28,12,29] h (by decide) (by kernel_rfl)
abbrev oL (v:SV):List SV:=[.v .nilFunc,v,Zb false,Zb false]
abbrev oT (v:SV):List SV:=[v,.v .nilFunc,Zb false,Zb false]
theorem Zal:cutAt (tabK N) (0+1*4) 4=oL (.fn 251 [] [.ptr (N+96) 0]):=by kernel_rfl
theorem Zpd:cutAt (tabK N) (0+2*4) 4=oL (.fn 144 [] []):=by kernel_rfl
theorem tabK_3:cutAt (tabK N) (0+3*4) 4=oT (.fn 145 [] []):=by kernel_rfl
theorem tabK_4:cutAt (tabK N) (0+4*4) 4=oT (.fn 146 [] []):=by kernel_rfl
abbrev oR (N:Nat):List SV:=[.fn 249 [] [.ptr (N+11) 0],.fn 251 [] [.ptr (N+12) 0],Zb false,Zb false]
theorem tabK_6:cutAt (tabK N) (0+6*4) 4=oR N:=by kernel_rfl
theorem tabK_7:cutAt (tabK N) (0+7*4) 4=oR N:=by kernel_rfl
theorem tabK_8:cutAt (tabK N) (0+8*4) 4=oR N:=by kernel_rfl
theorem tabK_9:cutAt (tabK N) (0+9*4) 4=oR N:=by kernel_rfl
theorem tabK_22:cutAt (tabK N) (0+22*4) 4=[.fn 156 [] [],.v .nilFunc,Zb false,Zb true]:=by kernel_rfl
theorem tabK_27:cutAt (tabK N) (0+27*4) 4=oT (.fn 249 [] [.ptr (N+106) 0]):=by kernel_rfl
theorem Fw:cutAt (tabK N) (0+28*4) 4=oL (.fn 251 [] [.ptr (N+107) 0]):=by kernel_rfl
end
end S
end Go.Proofs.YtpofmnfkdkmieaaGreat
