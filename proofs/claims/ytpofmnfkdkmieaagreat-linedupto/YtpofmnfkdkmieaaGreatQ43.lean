/- What is proved here: begin answers true, in any world. -/
import Derived.Test.YtpofmnfkdkmieaaGreatQ15
set_option linter.unusedVariables false
set_option linter.unusedSimpArgs false
namespace Go.Proofs.YtpofmnfkdkmieaaGreat
namespace S
open Go Go.RowKit E
def isT:Option Rs->Bool
 | some (.val (.v (.bool b)) _)=>b
 | _=>false
theorem isT_ok {q:Option Rs} (h:isT q=true):∃ σ,q=some (.val (.v (.bool true)) σ):=by
 unfold isT at h;split at h
 ·subst h;exact ⟨_,J⟩
 ·cases h
theorem first (w:World):Sx w [] (fun _=>none) ⟨0,.nil⟩ w:=by
 refine ⟨Fr.refl _ _,by show 0<=lim;omega,fun i _=>⟨fun _=>rfl,rfl⟩,(fun i sb hi=>by cases hi),(fun i j x y p q hi=>by cases hi)⟩
/-- A function of nothing that has been gone through answers true. -/
theorem Jz {f:FuncId} (k:Nat) (h:isT (R1 k (.call f [] ⟨0,.nil⟩))=true) (w:World):Jd Tryz.prog f #[] w (.bool true):=by
 obtain ⟨σ,hq⟩:=isT_ok h;have h1:=(Rk k _ _ hq).2 w [] (fun _=>none) w [] (first w) rfl;refine Calls.mono (callsIn_wide.1 h1) ?_;rintro e w' ⟨x,B',rfl,_,hx,hs⟩;have:=Xk hx;subst this;exact ⟨J,hs.low.below⟩
section
set_option maxRecDepth 100000
theorem Ac:isT (R1 2000 (.call 24 [] ⟨0,.nil⟩))=true:=by kernel_rfl
end
theorem begin_any (w:World):Jd Tryz.prog 24 #[] w (.bool true):=Jz 2000 Ac w
end S
end Go.Proofs.YtpofmnfkdkmieaaGreat
