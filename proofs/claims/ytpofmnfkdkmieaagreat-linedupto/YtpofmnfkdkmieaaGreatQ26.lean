/- What is proved here: the same for longer chains. -/
import Derived.Test.YtpofmnfkdkmieaaGreatQ25
set_option linter.unusedVariables false
set_option linter.unusedSimpArgs false
namespace Go.Proofs.YtpofmnfkdkmieaaGreat
namespace S
open Go Go.RowKit E
section
set_option maxRecDepth 100000
variable {N ob:Nat}
theorem con_5tt {x x1 x2 x3 x4 x5:CX} {b3 b4 b5:Bool}:HF Tryz.prog 391 [.sl x.mr 0 1 0,.fn 392 [.ptr x.c 0] []] N (chH id ob (⟨x,true⟩::[⟨x1,true⟩,⟨x2,true⟩,⟨x3,b3⟩,⟨x4,b4⟩,⟨x5,b5⟩])) fun u N' H'=>u=Zb false/\N'=N/\H'=chH id ob (⟨x,true⟩::[⟨x1,true⟩,⟨x2,true⟩,⟨x3,b3⟩,⟨x4,b4⟩,⟨x5,b5⟩]):=by
 cases b3<;>cases b4<;>cases b5<;>exact Yw rfl (Nat.le_of_ble_eq_true rfl) (by as_aux_lemma=>kernel_rfl) (by kernel_rfl) (by kernel_rfl)
theorem con_5tf {x x1 x2 x3 x4 x5:CX} {b3 b4 b5:Bool}:HF Tryz.prog 391 [.sl x.mr 0 1 0,.fn 392 [.ptr x.c 0] []] N (chH id ob (⟨x,true⟩::[⟨x1,true⟩,⟨x2,false⟩,⟨x3,b3⟩,⟨x4,b4⟩,⟨x5,b5⟩])) fun u N' H'=>u=Zb false/\N'=N/\H'=chH id ob (⟨x,true⟩::[⟨x1,true⟩,⟨x2,false⟩,⟨x3,b3⟩,⟨x4,b4⟩,⟨x5,b5⟩]):=by
 cases b3<;>cases b4<;>cases b5<;>exact Yw rfl (Nat.le_of_ble_eq_true rfl) (by as_aux_lemma=>kernel_rfl) (by kernel_rfl) (by kernel_rfl)
theorem con_5ft {x x1 x2 x3 x4 x5:CX} {b3 b4 b5:Bool}:HF Tryz.prog 391 [.sl x.mr 0 1 0,.fn 392 [.ptr x.c 0] []] N (chH id ob (⟨x,true⟩::[⟨x1,false⟩,⟨x2,true⟩,⟨x3,b3⟩,⟨x4,b4⟩,⟨x5,b5⟩])) fun u N' H'=>u=Zb false/\N'=N/\H'=chH id ob (⟨x,true⟩::[⟨x1,false⟩,⟨x2,true⟩,⟨x3,b3⟩,⟨x4,b4⟩,⟨x5,b5⟩]):=by
 cases b3<;>cases b4<;>cases b5<;>exact Yw rfl (Nat.le_of_ble_eq_true rfl) (by as_aux_lemma=>kernel_rfl) (by kernel_rfl) (by kernel_rfl)
theorem con_5ff {x x1 x2 x3 x4 x5:CX} {b3 b4 b5:Bool}:HF Tryz.prog 391 [.sl x.mr 0 1 0,.fn 392 [.ptr x.c 0] []] N (chH id ob (⟨x,true⟩::[⟨x1,false⟩,⟨x2,false⟩,⟨x3,b3⟩,⟨x4,b4⟩,⟨x5,b5⟩])) fun u N' H'=>u=Zb false/\N'=N/\H'=chH id ob (⟨x,true⟩::[⟨x1,false⟩,⟨x2,false⟩,⟨x3,b3⟩,⟨x4,b4⟩,⟨x5,b5⟩]):=by
 cases b3<;>cases b4<;>cases b5<;>exact Yw rfl (Nat.le_of_ble_eq_true rfl) (by as_aux_lemma=>kernel_rfl) (by kernel_rfl) (by kernel_rfl)
theorem con_5 {x:CX}:∀ r:List CD,r.length=5->HF Tryz.prog 391 [.sl x.mr 0 1 0,.fn 392 [.ptr x.c 0] []] N (chH id ob (⟨x,true⟩::r)) fun u N' H'=>u=Zb false/\N'=N/\H'=chH id ob (⟨x,true⟩::r)
 | [⟨_,true⟩,⟨_,true⟩,⟨_,_⟩,⟨_,_⟩,⟨_,_⟩],_=>con_5tt
 | [⟨_,true⟩,⟨_,false⟩,⟨_,_⟩,⟨_,_⟩,⟨_,_⟩],_=>con_5tf
 | [⟨_,false⟩,⟨_,true⟩,⟨_,_⟩,⟨_,_⟩,⟨_,_⟩],_=>con_5ft
 | [⟨_,false⟩,⟨_,false⟩,⟨_,_⟩,⟨_,_⟩,⟨_,_⟩],_=>con_5ff
 | [],h=>by cases h
 | [_],h=>by cases h
 | [_,_],h=>by cases h
 | [_,_,_],h=>by cases h
 | [_,_,_,_],h=>by cases h
 | _::_::_::_::_::_::_,h=>by simp at h
theorem Zdz {x x1 x2 x3 x4 x5 x6:CX} {b4 b5 b6:Bool}:HF Tryz.prog 391 [.sl x.mr 0 1 0,.fn 392 [.ptr x.c 0] []] N (chH id ob (⟨x,true⟩::[⟨x1,true⟩,⟨x2,true⟩,⟨x3,true⟩,⟨x4,b4⟩,⟨x5,b5⟩,⟨x6,b6⟩])) fun u N' H'=>u=Zb false/\N'=N/\H'=chH id ob (⟨x,true⟩::[⟨x1,true⟩,⟨x2,true⟩,⟨x3,true⟩,⟨x4,b4⟩,⟨x5,b5⟩,⟨x6,b6⟩]):=by
 cases b4<;>cases b5<;>cases b6<;>exact Yw rfl (Nat.le_of_ble_eq_true rfl) (by as_aux_lemma=>kernel_rfl) (by kernel_rfl) (by kernel_rfl)
theorem Zea {x x1 x2 x3 x4 x5 x6:CX} {b4 b5 b6:Bool}:HF Tryz.prog 391 [.sl x.mr 0 1 0,.fn 392 [.ptr x.c 0] []] N (chH id ob (⟨x,true⟩::[⟨x1,true⟩,⟨x2,true⟩,⟨x3,false⟩,⟨x4,b4⟩,⟨x5,b5⟩,⟨x6,b6⟩])) fun u N' H'=>u=Zb false/\N'=N/\H'=chH id ob (⟨x,true⟩::[⟨x1,true⟩,⟨x2,true⟩,⟨x3,false⟩,⟨x4,b4⟩,⟨x5,b5⟩,⟨x6,b6⟩]):=by
 cases b4<;>cases b5<;>cases b6<;>exact Yw rfl (Nat.le_of_ble_eq_true rfl) (by as_aux_lemma=>kernel_rfl) (by kernel_rfl) (by kernel_rfl)
theorem Zeb {x x1 x2 x3 x4 x5 x6:CX} {b4 b5 b6:Bool}:HF Tryz.prog 391 [.sl x.mr 0 1 0,.fn 392 [.ptr x.c 0] []] N (chH id ob (⟨x,true⟩::[⟨x1,true⟩,⟨x2,false⟩,⟨x3,true⟩,⟨x4,b4⟩,⟨x5,b5⟩,⟨x6,b6⟩])) fun u N' H'=>u=Zb false/\N'=N/\H'=chH id ob (⟨x,true⟩::[⟨x1,true⟩,⟨x2,false⟩,⟨x3,true⟩,⟨x4,b4⟩,⟨x5,b5⟩,⟨x6,b6⟩]):=by
 cases b4<;>cases b5<;>cases b6<;>exact Yw rfl (Nat.le_of_ble_eq_true rfl) (by as_aux_lemma=>kernel_rfl) (by kernel_rfl) (by kernel_rfl)
theorem Zec {x x1 x2 x3 x4 x5 x6:CX} {b4 b5 b6:Bool}:HF Tryz.prog 391 [.sl x.mr 0 1 0,.fn 392 [.ptr x.c 0] []] N (chH id ob (⟨x,true⟩::[⟨x1,true⟩,⟨x2,false⟩,⟨x3,false⟩,⟨x4,b4⟩,⟨x5,b5⟩,⟨x6,b6⟩])) fun u N' H'=>u=Zb false/\N'=N/\H'=chH id ob (⟨x,true⟩::[⟨x1,true⟩,⟨x2,false⟩,⟨x3,false⟩,⟨x4,b4⟩,⟨x5,b5⟩,⟨x6,b6⟩]):=by
 cases b4<;>cases b5<;>cases b6<;>exact Yw rfl (Nat.le_of_ble_eq_true rfl) (by as_aux_lemma=>kernel_rfl) (by kernel_rfl) (by kernel_rfl)
theorem Zed {x x1 x2 x3 x4 x5 x6:CX} {b4 b5 b6:Bool}:HF Tryz.prog 391 [.sl x.mr 0 1 0,.fn 392 [.ptr x.c 0] []] N (chH id ob (⟨x,true⟩::[⟨x1,false⟩,⟨x2,true⟩,⟨x3,true⟩,⟨x4,b4⟩,⟨x5,b5⟩,⟨x6,b6⟩])) fun u N' H'=>u=Zb false/\N'=N/\H'=chH id ob (⟨x,true⟩::[⟨x1,false⟩,⟨x2,true⟩,⟨x3,true⟩,⟨x4,b4⟩,⟨x5,b5⟩,⟨x6,b6⟩]):=by
 cases b4<;>cases b5<;>cases b6<;>exact Yw rfl (Nat.le_of_ble_eq_true rfl) (by as_aux_lemma=>kernel_rfl) (by kernel_rfl) (by kernel_rfl)
theorem Zee {x x1 x2 x3 x4 x5 x6:CX} {b4 b5 b6:Bool}:HF Tryz.prog 391 [.sl x.mr 0 1 0,.fn 392 [.ptr x.c 0] []] N (chH id ob (⟨x,true⟩::[⟨x1,false⟩,⟨x2,true⟩,⟨x3,false⟩,⟨x4,b4⟩,⟨x5,b5⟩,⟨x6,b6⟩])) fun u N' H'=>u=Zb false/\N'=N/\H'=chH id ob (⟨x,true⟩::[⟨x1,false⟩,⟨x2,true⟩,⟨x3,false⟩,⟨x4,b4⟩,⟨x5,b5⟩,⟨x6,b6⟩]):=by
 cases b4<;>cases b5<;>cases b6<;>exact Yw rfl (Nat.le_of_ble_eq_true rfl) (by as_aux_lemma=>kernel_rfl) (by kernel_rfl) (by kernel_rfl)
theorem Zef {x x1 x2 x3 x4 x5 x6:CX} {b4 b5 b6:Bool}:HF Tryz.prog 391 [.sl x.mr 0 1 0,.fn 392 [.ptr x.c 0] []] N (chH id ob (⟨x,true⟩::[⟨x1,false⟩,⟨x2,false⟩,⟨x3,true⟩,⟨x4,b4⟩,⟨x5,b5⟩,⟨x6,b6⟩])) fun u N' H'=>u=Zb false/\N'=N/\H'=chH id ob (⟨x,true⟩::[⟨x1,false⟩,⟨x2,false⟩,⟨x3,true⟩,⟨x4,b4⟩,⟨x5,b5⟩,⟨x6,b6⟩]):=by
 cases b4<;>cases b5<;>cases b6<;>exact Yw rfl (Nat.le_of_ble_eq_true rfl) (by as_aux_lemma=>kernel_rfl) (by kernel_rfl) (by kernel_rfl)
theorem Zeg {x x1 x2 x3 x4 x5 x6:CX} {b4 b5 b6:Bool}:HF Tryz.prog 391 [.sl x.mr 0 1 0,.fn 392 [.ptr x.c 0] []] N (chH id ob (⟨x,true⟩::[⟨x1,false⟩,⟨x2,false⟩,⟨x3,false⟩,⟨x4,b4⟩,⟨x5,b5⟩,⟨x6,b6⟩])) fun u N' H'=>u=Zb false/\N'=N/\H'=chH id ob (⟨x,true⟩::[⟨x1,false⟩,⟨x2,false⟩,⟨x3,false⟩,⟨x4,b4⟩,⟨x5,b5⟩,⟨x6,b6⟩]):=by
 cases b4<;>cases b5<;>cases b6<;>exact Yw rfl (Nat.le_of_ble_eq_true rfl) (by as_aux_lemma=>kernel_rfl) (by kernel_rfl) (by kernel_rfl)
theorem con_6 {x:CX}:∀ r:List CD,r.length=6->HF Tryz.prog 391 [.sl x.mr 0 1 0,.fn 392 [.ptr x.c 0] []] N (chH id ob (⟨x,true⟩::r)) fun u N' H'=>u=Zb false/\N'=N/\H'=chH id ob (⟨x,true⟩::r)
 | [⟨_,true⟩,⟨_,true⟩,⟨_,true⟩,⟨_,_⟩,⟨_,_⟩,⟨_,_⟩],_=>Zdz
 | [⟨_,true⟩,⟨_,true⟩,⟨_,false⟩,⟨_,_⟩,⟨_,_⟩,⟨_,_⟩],_=>Zea
 | [⟨_,true⟩,⟨_,false⟩,⟨_,true⟩,⟨_,_⟩,⟨_,_⟩,⟨_,_⟩],_=>Zeb
 | [⟨_,true⟩,⟨_,false⟩,⟨_,false⟩,⟨_,_⟩,⟨_,_⟩,⟨_,_⟩],_=>Zec
 | [⟨_,false⟩,⟨_,true⟩,⟨_,true⟩,⟨_,_⟩,⟨_,_⟩,⟨_,_⟩],_=>Zed
 | [⟨_,false⟩,⟨_,true⟩,⟨_,false⟩,⟨_,_⟩,⟨_,_⟩,⟨_,_⟩],_=>Zee
 | [⟨_,false⟩,⟨_,false⟩,⟨_,true⟩,⟨_,_⟩,⟨_,_⟩,⟨_,_⟩],_=>Zef
 | [⟨_,false⟩,⟨_,false⟩,⟨_,false⟩,⟨_,_⟩,⟨_,_⟩,⟨_,_⟩],_=>Zeg
 | [],h=>by cases h
 | [_],h=>by cases h
 | [_,_],h=>by cases h
 | [_,_,_],h=>by cases h
 | [_,_,_,_],h=>by cases h
 | [_,_,_,_,_],h=>by cases h
 | _::_::_::_::_::_::_::_,h=>by simp at h
end
end S
end Go.Proofs.YtpofmnfkdkmieaaGreat
