/- What is proved here: the same for longer chains. -/
import Derived.Test.YtpofmnfkdkmieaaGreatQ25
set_option linter.unusedVariables false
set_option linter.unusedSimpArgs false
namespace Go.Proofs.YtpofmnfkdkmieaaGreat
namespace S
open Go Go.RowKit E
section
set_option maxRecDepth 100000
variable {N ob:Nat}
theorem Bj {x x1 x2 x3 x4 x5 x6 x7:CX} {b5 b6 b7:Bool}:HF Tryz.prog 391 [.sl x.mr 0 1 0,.fn 392 [.ptr x.c 0] []] N (chH id ob (⟨x,true⟩::[⟨x1,true⟩,⟨x2,true⟩,⟨x3,true⟩,⟨x4,true⟩,⟨x5,b5⟩,⟨x6,b6⟩,⟨x7,b7⟩])) fun u N' H'=>u=Zb false/\N'=N/\H'=chH id ob (⟨x,true⟩::[⟨x1,true⟩,⟨x2,true⟩,⟨x3,true⟩,⟨x4,true⟩,⟨x5,b5⟩,⟨x6,b6⟩,⟨x7,b7⟩]):=by
 cases b5<;>cases b6<;>cases b7<;>exact Yw rfl (Nat.le_of_ble_eq_true rfl) (by as_aux_lemma=>kernel_rfl) (by kernel_rfl) (by kernel_rfl)
theorem Bm {x x1 x2 x3 x4 x5 x6 x7:CX} {b5 b6 b7:Bool}:HF Tryz.prog 391 [.sl x.mr 0 1 0,.fn 392 [.ptr x.c 0] []] N (chH id ob (⟨x,true⟩::[⟨x1,true⟩,⟨x2,true⟩,⟨x3,true⟩,⟨x4,false⟩,⟨x5,b5⟩,⟨x6,b6⟩,⟨x7,b7⟩])) fun u N' H'=>u=Zb false/\N'=N/\H'=chH id ob (⟨x,true⟩::[⟨x1,true⟩,⟨x2,true⟩,⟨x3,true⟩,⟨x4,false⟩,⟨x5,b5⟩,⟨x6,b6⟩,⟨x7,b7⟩]):=by
 cases b5<;>cases b6<;>cases b7<;>exact Yw rfl (Nat.le_of_ble_eq_true rfl) (by as_aux_lemma=>kernel_rfl) (by kernel_rfl) (by kernel_rfl)
theorem Bn {x x1 x2 x3 x4 x5 x6 x7:CX} {b5 b6 b7:Bool}:HF Tryz.prog 391 [.sl x.mr 0 1 0,.fn 392 [.ptr x.c 0] []] N (chH id ob (⟨x,true⟩::[⟨x1,true⟩,⟨x2,true⟩,⟨x3,false⟩,⟨x4,true⟩,⟨x5,b5⟩,⟨x6,b6⟩,⟨x7,b7⟩])) fun u N' H'=>u=Zb false/\N'=N/\H'=chH id ob (⟨x,true⟩::[⟨x1,true⟩,⟨x2,true⟩,⟨x3,false⟩,⟨x4,true⟩,⟨x5,b5⟩,⟨x6,b6⟩,⟨x7,b7⟩]):=by
 cases b5<;>cases b6<;>cases b7<;>exact Yw rfl (Nat.le_of_ble_eq_true rfl) (by as_aux_lemma=>kernel_rfl) (by kernel_rfl) (by kernel_rfl)
theorem Bo {x x1 x2 x3 x4 x5 x6 x7:CX} {b5 b6 b7:Bool}:HF Tryz.prog 391 [.sl x.mr 0 1 0,.fn 392 [.ptr x.c 0] []] N (chH id ob (⟨x,true⟩::[⟨x1,true⟩,⟨x2,true⟩,⟨x3,false⟩,⟨x4,false⟩,⟨x5,b5⟩,⟨x6,b6⟩,⟨x7,b7⟩])) fun u N' H'=>u=Zb false/\N'=N/\H'=chH id ob (⟨x,true⟩::[⟨x1,true⟩,⟨x2,true⟩,⟨x3,false⟩,⟨x4,false⟩,⟨x5,b5⟩,⟨x6,b6⟩,⟨x7,b7⟩]):=by
 cases b5<;>cases b6<;>cases b7<;>exact Yw rfl (Nat.le_of_ble_eq_true rfl) (by as_aux_lemma=>kernel_rfl) (by kernel_rfl) (by kernel_rfl)
theorem Bp {x x1 x2 x3 x4 x5 x6 x7:CX} {b5 b6 b7:Bool}:HF Tryz.prog 391 [.sl x.mr 0 1 0,.fn 392 [.ptr x.c 0] []] N (chH id ob (⟨x,true⟩::[⟨x1,true⟩,⟨x2,false⟩,⟨x3,true⟩,⟨x4,true⟩,⟨x5,b5⟩,⟨x6,b6⟩,⟨x7,b7⟩])) fun u N' H'=>u=Zb false/\N'=N/\H'=chH id ob (⟨x,true⟩::[⟨x1,true⟩,⟨x2,false⟩,⟨x3,true⟩,⟨x4,true⟩,⟨x5,b5⟩,⟨x6,b6⟩,⟨x7,b7⟩]):=by
 cases b5<;>cases b6<;>cases b7<;>exact Yw rfl (Nat.le_of_ble_eq_true rfl) (by as_aux_lemma=>kernel_rfl) (by kernel_rfl) (by kernel_rfl)
theorem Bq {x x1 x2 x3 x4 x5 x6 x7:CX} {b5 b6 b7:Bool}:HF Tryz.prog 391 [.sl x.mr 0 1 0,.fn 392 [.ptr x.c 0] []] N (chH id ob (⟨x,true⟩::[⟨x1,true⟩,⟨x2,false⟩,⟨x3,true⟩,⟨x4,false⟩,⟨x5,b5⟩,⟨x6,b6⟩,⟨x7,b7⟩])) fun u N' H'=>u=Zb false/\N'=N/\H'=chH id ob (⟨x,true⟩::[⟨x1,true⟩,⟨x2,false⟩,⟨x3,true⟩,⟨x4,false⟩,⟨x5,b5⟩,⟨x6,b6⟩,⟨x7,b7⟩]):=by
 cases b5<;>cases b6<;>cases b7<;>exact Yw rfl (Nat.le_of_ble_eq_true rfl) (by as_aux_lemma=>kernel_rfl) (by kernel_rfl) (by kernel_rfl)
theorem Br {x x1 x2 x3 x4 x5 x6 x7:CX} {b5 b6 b7:Bool}:HF Tryz.prog 391 [.sl x.mr 0 1 0,.fn 392 [.ptr x.c 0] []] N (chH id ob (⟨x,true⟩::[⟨x1,true⟩,⟨x2,false⟩,⟨x3,false⟩,⟨x4,true⟩,⟨x5,b5⟩,⟨x6,b6⟩,⟨x7,b7⟩])) fun u N' H'=>u=Zb false/\N'=N/\H'=chH id ob (⟨x,true⟩::[⟨x1,true⟩,⟨x2,false⟩,⟨x3,false⟩,⟨x4,true⟩,⟨x5,b5⟩,⟨x6,b6⟩,⟨x7,b7⟩]):=by
 cases b5<;>cases b6<;>cases b7<;>exact Yw rfl (Nat.le_of_ble_eq_true rfl) (by as_aux_lemma=>kernel_rfl) (by kernel_rfl) (by kernel_rfl)
theorem Bt {x x1 x2 x3 x4 x5 x6 x7:CX} {b5 b6 b7:Bool}:HF Tryz.prog 391 [.sl x.mr 0 1 0,.fn 392 [.ptr x.c 0] []] N (chH id ob (⟨x,true⟩::[⟨x1,true⟩,⟨x2,false⟩,⟨x3,false⟩,⟨x4,false⟩,⟨x5,b5⟩,⟨x6,b6⟩,⟨x7,b7⟩])) fun u N' H'=>u=Zb false/\N'=N/\H'=chH id ob (⟨x,true⟩::[⟨x1,true⟩,⟨x2,false⟩,⟨x3,false⟩,⟨x4,false⟩,⟨x5,b5⟩,⟨x6,b6⟩,⟨x7,b7⟩]):=by
 cases b5<;>cases b6<;>cases b7<;>exact Yw rfl (Nat.le_of_ble_eq_true rfl) (by as_aux_lemma=>kernel_rfl) (by kernel_rfl) (by kernel_rfl)
theorem Bv {x x1 x2 x3 x4 x5 x6 x7:CX} {b5 b6 b7:Bool}:HF Tryz.prog 391 [.sl x.mr 0 1 0,.fn 392 [.ptr x.c 0] []] N (chH id ob (⟨x,true⟩::[⟨x1,false⟩,⟨x2,true⟩,⟨x3,true⟩,⟨x4,true⟩,⟨x5,b5⟩,⟨x6,b6⟩,⟨x7,b7⟩])) fun u N' H'=>u=Zb false/\N'=N/\H'=chH id ob (⟨x,true⟩::[⟨x1,false⟩,⟨x2,true⟩,⟨x3,true⟩,⟨x4,true⟩,⟨x5,b5⟩,⟨x6,b6⟩,⟨x7,b7⟩]):=by
 cases b5<;>cases b6<;>cases b7<;>exact Yw rfl (Nat.le_of_ble_eq_true rfl) (by as_aux_lemma=>kernel_rfl) (by kernel_rfl) (by kernel_rfl)
theorem Bw {x x1 x2 x3 x4 x5 x6 x7:CX} {b5 b6 b7:Bool}:HF Tryz.prog 391 [.sl x.mr 0 1 0,.fn 392 [.ptr x.c 0] []] N (chH id ob (⟨x,true⟩::[⟨x1,false⟩,⟨x2,true⟩,⟨x3,true⟩,⟨x4,false⟩,⟨x5,b5⟩,⟨x6,b6⟩,⟨x7,b7⟩])) fun u N' H'=>u=Zb false/\N'=N/\H'=chH id ob (⟨x,true⟩::[⟨x1,false⟩,⟨x2,true⟩,⟨x3,true⟩,⟨x4,false⟩,⟨x5,b5⟩,⟨x6,b6⟩,⟨x7,b7⟩]):=by
 cases b5<;>cases b6<;>cases b7<;>exact Yw rfl (Nat.le_of_ble_eq_true rfl) (by as_aux_lemma=>kernel_rfl) (by kernel_rfl) (by kernel_rfl)
theorem Bx {x x1 x2 x3 x4 x5 x6 x7:CX} {b5 b6 b7:Bool}:HF Tryz.prog 391 [.sl x.mr 0 1 0,.fn 392 [.ptr x.c 0] []] N (chH id ob (⟨x,true⟩::[⟨x1,false⟩,⟨x2,true⟩,⟨x3,false⟩,⟨x4,true⟩,⟨x5,b5⟩,⟨x6,b6⟩,⟨x7,b7⟩])) fun u N' H'=>u=Zb false/\N'=N/\H'=chH id ob (⟨x,true⟩::[⟨x1,false⟩,⟨x2,true⟩,⟨x3,false⟩,⟨x4,true⟩,⟨x5,b5⟩,⟨x6,b6⟩,⟨x7,b7⟩]):=by
 cases b5<;>cases b6<;>cases b7<;>exact Yw rfl (Nat.le_of_ble_eq_true rfl) (by as_aux_lemma=>kernel_rfl) (by kernel_rfl) (by kernel_rfl)
theorem By {x x1 x2 x3 x4 x5 x6 x7:CX} {b5 b6 b7:Bool}:HF Tryz.prog 391 [.sl x.mr 0 1 0,.fn 392 [.ptr x.c 0] []] N (chH id ob (⟨x,true⟩::[⟨x1,false⟩,⟨x2,true⟩,⟨x3,false⟩,⟨x4,false⟩,⟨x5,b5⟩,⟨x6,b6⟩,⟨x7,b7⟩])) fun u N' H'=>u=Zb false/\N'=N/\H'=chH id ob (⟨x,true⟩::[⟨x1,false⟩,⟨x2,true⟩,⟨x3,false⟩,⟨x4,false⟩,⟨x5,b5⟩,⟨x6,b6⟩,⟨x7,b7⟩]):=by
 cases b5<;>cases b6<;>cases b7<;>exact Yw rfl (Nat.le_of_ble_eq_true rfl) (by as_aux_lemma=>kernel_rfl) (by kernel_rfl) (by kernel_rfl)
theorem Bz {x x1 x2 x3 x4 x5 x6 x7:CX} {b5 b6 b7:Bool}:HF Tryz.prog 391 [.sl x.mr 0 1 0,.fn 392 [.ptr x.c 0] []] N (chH id ob (⟨x,true⟩::[⟨x1,false⟩,⟨x2,false⟩,⟨x3,true⟩,⟨x4,true⟩,⟨x5,b5⟩,⟨x6,b6⟩,⟨x7,b7⟩])) fun u N' H'=>u=Zb false/\N'=N/\H'=chH id ob (⟨x,true⟩::[⟨x1,false⟩,⟨x2,false⟩,⟨x3,true⟩,⟨x4,true⟩,⟨x5,b5⟩,⟨x6,b6⟩,⟨x7,b7⟩]):=by
 cases b5<;>cases b6<;>cases b7<;>exact Yw rfl (Nat.le_of_ble_eq_true rfl) (by as_aux_lemma=>kernel_rfl) (by kernel_rfl) (by kernel_rfl)
theorem B5 {x x1 x2 x3 x4 x5 x6 x7:CX} {b5 b6 b7:Bool}:HF Tryz.prog 391 [.sl x.mr 0 1 0,.fn 392 [.ptr x.c 0] []] N (chH id ob (⟨x,true⟩::[⟨x1,false⟩,⟨x2,false⟩,⟨x3,true⟩,⟨x4,false⟩,⟨x5,b5⟩,⟨x6,b6⟩,⟨x7,b7⟩])) fun u N' H'=>u=Zb false/\N'=N/\H'=chH id ob (⟨x,true⟩::[⟨x1,false⟩,⟨x2,false⟩,⟨x3,true⟩,⟨x4,false⟩,⟨x5,b5⟩,⟨x6,b6⟩,⟨x7,b7⟩]):=by
 cases b5<;>cases b6<;>cases b7<;>exact Yw rfl (Nat.le_of_ble_eq_true rfl) (by as_aux_lemma=>kernel_rfl) (by kernel_rfl) (by kernel_rfl)
theorem B6 {x x1 x2 x3 x4 x5 x6 x7:CX} {b5 b6 b7:Bool}:HF Tryz.prog 391 [.sl x.mr 0 1 0,.fn 392 [.ptr x.c 0] []] N (chH id ob (⟨x,true⟩::[⟨x1,false⟩,⟨x2,false⟩,⟨x3,false⟩,⟨x4,true⟩,⟨x5,b5⟩,⟨x6,b6⟩,⟨x7,b7⟩])) fun u N' H'=>u=Zb false/\N'=N/\H'=chH id ob (⟨x,true⟩::[⟨x1,false⟩,⟨x2,false⟩,⟨x3,false⟩,⟨x4,true⟩,⟨x5,b5⟩,⟨x6,b6⟩,⟨x7,b7⟩]):=by
 cases b5<;>cases b6<;>cases b7<;>exact Yw rfl (Nat.le_of_ble_eq_true rfl) (by as_aux_lemma=>kernel_rfl) (by kernel_rfl) (by kernel_rfl)
theorem B7 {x x1 x2 x3 x4 x5 x6 x7:CX} {b5 b6 b7:Bool}:HF Tryz.prog 391 [.sl x.mr 0 1 0,.fn 392 [.ptr x.c 0] []] N (chH id ob (⟨x,true⟩::[⟨x1,false⟩,⟨x2,false⟩,⟨x3,false⟩,⟨x4,false⟩,⟨x5,b5⟩,⟨x6,b6⟩,⟨x7,b7⟩])) fun u N' H'=>u=Zb false/\N'=N/\H'=chH id ob (⟨x,true⟩::[⟨x1,false⟩,⟨x2,false⟩,⟨x3,false⟩,⟨x4,false⟩,⟨x5,b5⟩,⟨x6,b6⟩,⟨x7,b7⟩]):=by
 cases b5<;>cases b6<;>cases b7<;>exact Yw rfl (Nat.le_of_ble_eq_true rfl) (by as_aux_lemma=>kernel_rfl) (by kernel_rfl) (by kernel_rfl)
theorem con_7 {x:CX}:∀ r:List CD,r.length=7->HF Tryz.prog 391 [.sl x.mr 0 1 0,.fn 392 [.ptr x.c 0] []] N (chH id ob (⟨x,true⟩::r)) fun u N' H'=>u=Zb false/\N'=N/\H'=chH id ob (⟨x,true⟩::r)
 | [⟨_,true⟩,⟨_,true⟩,⟨_,true⟩,⟨_,true⟩,⟨_,_⟩,⟨_,_⟩,⟨_,_⟩],_=>Bj
 | [⟨_,true⟩,⟨_,true⟩,⟨_,true⟩,⟨_,false⟩,⟨_,_⟩,⟨_,_⟩,⟨_,_⟩],_=>Bm
 | [⟨_,true⟩,⟨_,true⟩,⟨_,false⟩,⟨_,true⟩,⟨_,_⟩,⟨_,_⟩,⟨_,_⟩],_=>Bn
 | [⟨_,true⟩,⟨_,true⟩,⟨_,false⟩,⟨_,false⟩,⟨_,_⟩,⟨_,_⟩,⟨_,_⟩],_=>Bo
 | [⟨_,true⟩,⟨_,false⟩,⟨_,true⟩,⟨_,true⟩,⟨_,_⟩,⟨_,_⟩,⟨_,_⟩],_=>Bp
 | [⟨_,true⟩,⟨_,false⟩,⟨_,true⟩,⟨_,false⟩,⟨_,_⟩,⟨_,_⟩,⟨_,_⟩],_=>Bq
 | [⟨_,true⟩,⟨_,false⟩,⟨_,false⟩,⟨_,true⟩,⟨_,_⟩,⟨_,_⟩,⟨_,_⟩],_=>Br
 | [⟨_,true⟩,⟨_,false⟩,⟨_,false⟩,⟨_,false⟩,⟨_,_⟩,⟨_,_⟩,⟨_,_⟩],_=>Bt
 | [⟨_,false⟩,⟨_,true⟩,⟨_,true⟩,⟨_,true⟩,⟨_,_⟩,⟨_,_⟩,⟨_,_⟩],_=>Bv
 | [⟨_,false⟩,⟨_,true⟩,⟨_,true⟩,⟨_,false⟩,⟨_,_⟩,⟨_,_⟩,⟨_,_⟩],_=>Bw
 | [⟨_,false⟩,⟨_,true⟩,⟨_,false⟩,⟨_,true⟩,⟨_,_⟩,⟨_,_⟩,⟨_,_⟩],_=>Bx
 | [⟨_,false⟩,⟨_,true⟩,⟨_,false⟩,⟨_,false⟩,⟨_,_⟩,⟨_,_⟩,⟨_,_⟩],_=>By
 | [⟨_,false⟩,⟨_,false⟩,⟨_,true⟩,⟨_,true⟩,⟨_,_⟩,⟨_,_⟩,⟨_,_⟩],_=>Bz
 | [⟨_,false⟩,⟨_,false⟩,⟨_,true⟩,⟨_,false⟩,⟨_,_⟩,⟨_,_⟩,⟨_,_⟩],_=>B5
 | [⟨_,false⟩,⟨_,false⟩,⟨_,false⟩,⟨_,true⟩,⟨_,_⟩,⟨_,_⟩,⟨_,_⟩],_=>B6
 | [⟨_,false⟩,⟨_,false⟩,⟨_,false⟩,⟨_,false⟩,⟨_,_⟩,⟨_,_⟩,⟨_,_⟩],_=>B7
 | [],h=>by cases h
 | [_],h=>by cases h
 | [_,_],h=>by cases h
 | [_,_,_],h=>by cases h
 | [_,_,_,_],h=>by cases h
 | [_,_,_,_,_],h=>by cases h
 | [_,_,_,_,_,_],h=>by cases h
 | _::_::_::_::_::_::_::_::_,h=>by simp at h
end
end S
end Go.Proofs.YtpofmnfkdkmieaaGreat
