/- What is proved here: part 09. -/
import Derived.Test.YtpofmnfkdkmieaaGreatG02
set_option linter.all false
open Bool renaming true->K
open Go.Proofs.Tryz renaming prog->T
set_option maxRecDepth 100000
set_option maxHeartbeats 4000000
noncomputable section
namespace Go.Proofs.YtpofmnfkdkmieaaGreat
open Go Go.RowKit
def Ik:S fe->aJ|some (.b (.k<|.bool a) _)=>a|_=>false
def aju{b}(a:Ik b=K):∃c,b=some (.b (R K) c):=by unfold Ik at a;split at a;subst a;exact⟨_,J⟩;cases a
def aiP(a:World):aZ a [] (λ_=>none) ⟨0,.a⟩ a:=by refine⟨hK.g _ _,by show 0<=bi;omega,λd _=>⟨λ_=>rfl,J⟩,(λe i b=>by cases b),(λf j k l g h c=>by cases c)⟩
def and{b}(c:Nat)(d:Ik (qq c<|.b b [] ⟨0,.a⟩)=K)(a:World):yc T b #[] a (.bool K):=by let⟨m,f⟩:=aju d;let e:=(AT c _ _ f).2 a [] (λ_=>none) a [] (aiP a) J;refine Calls.mono (callsIn_wide.1 e) ?_;rintro j k⟨l,i,rfl,_,h,g⟩;have:=eh h;subst this;exact⟨J,g.c.below⟩
section
def agY:Ik (qq 2000<|.b 24 [] ⟨0,.a⟩)=K:=M
end
def agX(a:World):yc T 24 #[] a (.bool K):=and 2000 agY a
