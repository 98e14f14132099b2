/- What is proved here: what the program's own tables say of its -/
import Derived.Test.YtpofmnfkdkmieaaGreatProg
import Derived.Test.YtpofmnfkdkmieaaGreatQ02
import Derived.Test.YtpofmnfkdkmieaaGreatQ03
set_option linter.unusedVariables false
set_option linter.unusedSimpArgs false
namespace Go.Proofs.YtpofmnfkdkmieaaGreat
namespace E
open Go Go.RowKit
def fTab:List (Nat × Nat × Nat):=[(24,0,0),(24,1,1),(24,2,2),(24,3,3),(25,0,0),(25,1,1),(25,2,2),(25,3,3),(70,0,0),(70,1,1),(71,0,0),(71,1,1),(72,0,0),(72,1,1),(72,2,2),(72,3,3),(73,0,0),(73,1,1),(73,2,2),(73,3,3),(74,0,0),(74,1,1),(74,2,2),(75,0,0),(75,1,1),(75,2,2),(127,0,0),(127,1,1),(127,2,2),(128,0,0),(128,1,1),(128,2,2),(133,0,0),(133,1,1),(133,2,2),(133,3,3),(133,4,5),(133,5,6),(133,6,7),(133,7,8),(133,8,9),(134,0,0),(134,1,1),(134,2,2),(134,3,3),(134,4,5),(134,5,6),(134,6,7),(134,7,8),(134,8,9),(142,0,0),(142,1,1),(143,0,0),(143,1,1),(168,0,0),(168,1,1),(168,2,2),(168,3,3),(169,0,0),(169,1,1),(169,2,2),(169,3,3),(175,0,0),(175,1,1),(175,2,2),(176,0,0),(176,1,1),(176,2,2),(225,0,0),(226,0,0),(232,0,0),(233,0,0)]
theorem fTab_ok:∀ e ∈ fTab,FF Tryz.prog e.1 e.2.1 e.2.2:=by
 simp only [fTab,List.forall_mem_cons];refine ⟨?_,?_,?_,?_,?_,?_,?_,?_,?_,?_,?_,?_,?_,?_,?_,?_,?_,?_,?_,?_,?_,?_,?_,?_,?_,?_,?_,?_,?_,?_,?_,?_,?_,?_,?_,?_,?_,?_,?_,?_,?_,?_,?_,?_,?_,?_,?_,?_,?_,?_,?_,?_,?_,?_,?_,?_,?_,?_,?_,?_,?_,?_,?_,?_,?_,?_,?_,?_,?_,?_,?_,?_,List.forall_mem_nil _⟩;all_goals (intro b off w;kernel_rfl)
def Zhn:List (Nat):=[1,2,3,4,5,9,22,23,48,51,64,69,76,103,131,132,159,186,187,224,229,231,252,254,293,295,335,362,403]
theorem Zni:∀ e ∈ Zhn,T1 Tryz.prog e:=by
 simp only [Zhn,List.forall_mem_cons];refine ⟨?_,?_,?_,?_,?_,?_,?_,?_,?_,?_,?_,?_,?_,?_,?_,?_,?_,?_,?_,?_,?_,?_,?_,?_,?_,?_,?_,?_,?_,List.forall_mem_nil _⟩;all_goals (intro w;exact ⟨by kernel_rfl,by kernel_rfl⟩)
def nTab:List (Nat × Nat):=[(24,4),(25,4),(70,2),(71,2),(72,5),(73,5),(74,7),(75,7),(127,4),(128,4),(133,10),(134,10),(142,2),(143,2),(168,4),(169,4),(175,3),(176,3),(225,1),(226,1),(232,1),(233,1)]
theorem nTab_ok:∀ e ∈ nTab,TN Tryz.prog e.1 e.2:=by
 simp only [nTab,List.forall_mem_cons];refine ⟨?_,?_,?_,?_,?_,?_,?_,?_,?_,?_,?_,?_,?_,?_,?_,?_,?_,?_,?_,?_,?_,?_,List.forall_mem_nil _⟩;all_goals (intro w;exact ⟨by kernel_rfl,by kernel_rfl⟩)
def sTab:List (Nat × Nat × Nat):=[(22,128,4),(23,134,10),(64,5,1),(69,71,2),(76,75,7),(131,169,4),(132,176,3)]
theorem sTab_ok:∀ e ∈ sTab,TS Tryz.prog e.1 e.2.1 e.2.2:=by
 simp only [sTab,List.forall_mem_cons];refine ⟨?_,?_,?_,?_,?_,?_,?_,List.forall_mem_nil _⟩;all_goals (exact ⟨by kernel_rfl,fun w=>by kernel_rfl⟩)
def Zgq:List (Nat):=[9]
theorem Zmo:∀ e ∈ Zgq,TStr Tryz.prog e:=by
 simp only [Zgq,List.forall_mem_cons];refine ⟨?_,List.forall_mem_nil _⟩;all_goals (show _=_;kernel_rfl)
def zTab:List (Nat × List Value):=[(1,[.nilFunc]),(2,[.int .i64 0]),(3,[.int .i64 0]),(4,[.bool false]),(5,[.int .u8 0]),(9,[.string ⟨#[]⟩]),(22,[.slice none 0 0]),(23,[.slice none 0 0]),(24,[.string ⟨#[]⟩,.string ⟨#[]⟩,.slice none 0 0,.slice none 0 0]),(25,[.string ⟨#[]⟩,.string ⟨#[]⟩,.slice none 0 0,.slice none 0 0]),(48,[.int .i64 0]),(51,[.nilFunc]),(64,[.slice none 0 0]),(69,[.slice none 0 0]),(70,[.int .i64 0,.string ⟨#[]⟩]),(71,[.int .i64 0,.string ⟨#[]⟩]),(72,[.string ⟨#[]⟩,.string ⟨#[]⟩,.slice none 0 0,.int .i64 0,.string ⟨#[]⟩]),(73,[.string ⟨#[]⟩,.string ⟨#[]⟩,.slice none 0 0,.int .i64 0,.string ⟨#[]⟩]),(74,[.int .i64 0,.int .i64 0,.string ⟨#[]⟩,.string ⟨#[]⟩,.slice none 0 0,.int .i64 0,.string ⟨#[]⟩]),(75,[.int .i64 0,.int .i64 0,.string ⟨#[]⟩,.string ⟨#[]⟩,.slice none 0 0,.int .i64 0,.string ⟨#[]⟩]),(76,[.slice none 0 0]),(103,[.int .u64 0]),(127,[.string ⟨#[]⟩,.bool false,.int .i64 0,.string ⟨#[]⟩]),(128,[.string ⟨#[]⟩,.bool false,.int .i64 0,.string ⟨#[]⟩]),(131,[.slice none 0 0]),(132,[.slice none 0 0]),(133,[.string ⟨#[]⟩,.bool false,.slice none 0 0,.int .i64 0,.string ⟨#[]⟩,.int .i64 0,.int .i64 0,.slice none 0 0,.slice none 0 0,.slice none 0 0]),(134,[.string ⟨#[]⟩,.bool false,.slice none 0 0,.int .i64 0,.string ⟨#[]⟩,.int .i64 0,.int .i64 0,.slice none 0 0,.slice none 0 0,.slice none 0 0]),(142,[.int .i64 0,.int .i64 0]),(143,[.int .i64 0,.int .i64 0]),(159,[.nilFunc]),(168,[.int .i64 0,.int .i64 0,.int .i64 0,.string ⟨#[]⟩]),(169,[.int .i64 0,.int .i64 0,.int .i64 0,.string ⟨#[]⟩]),(175,[.int .i64 0,.slice none 0 0,.slice none 0 0]),(176,[.int .i64 0,.slice none 0 0,.slice none 0 0]),(186,[.nilFunc]),(187,[.nilFunc]),(224,[.pointer none]),(225,[.string ⟨#[]⟩]),(226,[.string ⟨#[]⟩]),(229,[.nilFunc]),(231,[.pointer none]),(232,[.slice none 0 0]),(233,[.slice none 0 0]),(252,[.int .u64 0]),(254,[.nilFunc]),(293,[.nilFunc]),(295,[.nilFunc]),(335,[.nilFunc]),(362,[.int .i64 0]),(403,[.pointer none])]
theorem zTab_ok:∀ e ∈ zTab,TZ Tryz.prog e.1 e.2:=by
 simp only [zTab,List.forall_mem_cons];refine ⟨?_,?_,?_,?_,?_,?_,?_,?_,?_,?_,?_,?_,?_,?_,?_,?_,?_,?_,?_,?_,?_,?_,?_,?_,?_,?_,?_,?_,?_,?_,?_,?_,?_,?_,?_,?_,?_,?_,?_,?_,?_,?_,?_,?_,?_,?_,?_,?_,?_,?_,?_,List.forall_mem_nil _⟩;all_goals (intro w;kernel_rfl)
def aTab:List (Nat × Nat × Nat × Nat × Value):=[(22,128,4,48,.agg #[.string ⟨#[]⟩,.bool false,.int .i64 0,.string ⟨#[]⟩]),(23,134,10,160,.agg #[.string ⟨#[]⟩,.bool false,.slice none 0 0,.int .i64 0,.string ⟨#[]⟩,.int .i64 0,.int .i64 0,.slice none 0 0,.slice none 0 0,.slice none 0 0]),(64,5,1,1,.int .u8 0),(69,71,2,24,.agg #[.int .i64 0,.string ⟨#[]⟩]),(76,75,7,96,.agg #[.int .i64 0,.int .i64 0,.string ⟨#[]⟩,.string ⟨#[]⟩,.slice none 0 0,.int .i64 0,.string ⟨#[]⟩]),(131,169,4,40,.agg #[.int .i64 0,.int .i64 0,.int .i64 0,.string ⟨#[]⟩]),(132,176,3,56,.agg #[.int .i64 0,.slice none 0 0,.slice none 0 0])]
theorem aTab_ok:∀ e ∈ aTab,TA Tryz.prog e.1 e.2.1 e.2.2.1 e.2.2.2.1 e.2.2.2.2:=by
 simp only [aTab,List.forall_mem_cons];refine ⟨?_,?_,?_,?_,?_,?_,?_,List.forall_mem_nil _⟩;all_goals (exact ⟨by kernel_rfl,by kernel_rfl,by kernel_rfl,by decide⟩)
def bTab:List (Nat × List Value × List (Nat × Nat)):=[(24,[.string ⟨#[]⟩,.string ⟨#[]⟩,.slice none 0 0,.slice none 0 0],[(0,1),(1,1),(2,1),(3,1)]),(25,[.string ⟨#[]⟩,.string ⟨#[]⟩,.slice none 0 0,.slice none 0 0],[(0,1),(1,1),(2,1),(3,1)]),(70,[.int .i64 0,.string ⟨#[]⟩],[(0,1),(1,1)]),(71,[.int .i64 0,.string ⟨#[]⟩],[(0,1),(1,1)]),(72,[.string ⟨#[]⟩,.string ⟨#[]⟩,.slice none 0 0,.int .i64 0,.string ⟨#[]⟩],[(0,1),(1,1),(2,1),(3,2)]),(73,[.string ⟨#[]⟩,.string ⟨#[]⟩,.slice none 0 0,.int .i64 0,.string ⟨#[]⟩],[(0,1),(1,1),(2,1),(3,2)]),(74,[.int .i64 0,.int .i64 0,.string ⟨#[]⟩,.string ⟨#[]⟩,.slice none 0 0,.int .i64 0,.string ⟨#[]⟩],[(0,1),(1,1),(2,5)]),(75,[.int .i64 0,.int .i64 0,.string ⟨#[]⟩,.string ⟨#[]⟩,.slice none 0 0,.int .i64 0,.string ⟨#[]⟩],[(0,1),(1,1),(2,5)]),(127,[.string ⟨#[]⟩,.bool false,.int .i64 0,.string ⟨#[]⟩],[(0,1),(1,1),(2,2)]),(128,[.string ⟨#[]⟩,.bool false,.int .i64 0,.string ⟨#[]⟩],[(0,1),(1,1),(2,2)]),(133,[.string ⟨#[]⟩,.bool false,.slice none 0 0,.int .i64 0,.string ⟨#[]⟩,.int .i64 0,.int .i64 0,.slice none 0 0,.slice none 0 0,.slice none 0 0],[(0,1),(1,1),(2,1),(3,2),(5,1),(6,1),(7,1),(8,1),(9,1)]),(134,[.string ⟨#[]⟩,.bool false,.slice none 0 0,.int .i64 0,.string ⟨#[]⟩,.int .i64 0,.int .i64 0,.slice none 0 0,.slice none 0 0,.slice none 0 0],[(0,1),(1,1),(2,1),(3,2),(5,1),(6,1),(7,1),(8,1),(9,1)]),(142,[.int .i64 0,.int .i64 0],[(0,1),(1,1)]),(143,[.int .i64 0,.int .i64 0],[(0,1),(1,1)]),(168,[.int .i64 0,.int .i64 0,.int .i64 0,.string ⟨#[]⟩],[(0,1),(1,1),(2,1),(3,1)]),(169,[.int .i64 0,.int .i64 0,.int .i64 0,.string ⟨#[]⟩],[(0,1),(1,1),(2,1),(3,1)]),(175,[.int .i64 0,.slice none 0 0,.slice none 0 0],[(0,1),(1,1),(2,1)]),(176,[.int .i64 0,.slice none 0 0,.slice none 0 0],[(0,1),(1,1),(2,1)]),(225,[.string ⟨#[]⟩],[(0,1)]),(226,[.string ⟨#[]⟩],[(0,1)]),(232,[.slice none 0 0],[(0,1)]),(233,[.slice none 0 0],[(0,1)])]
theorem bTab_ok:∀ e ∈ bTab,TB Tryz.prog e.1 e.2.1 e.2.2:=by
 simp only [bTab,List.forall_mem_cons];refine ⟨?_,?_,?_,?_,?_,?_,?_,?_,?_,?_,?_,?_,?_,?_,?_,?_,?_,?_,?_,?_,?_,?_,List.forall_mem_nil _⟩
 ·exact ⟨fun w=>by kernel_rfl,_,Tryz.underlying24,fun w=>by kernel_rfl⟩
 ·exact ⟨fun w=>by kernel_rfl,_,Tryz.underlying25,fun w=>by kernel_rfl⟩
 ·exact ⟨fun w=>by kernel_rfl,_,Tryz.underlying70,fun w=>by kernel_rfl⟩
 ·exact ⟨fun w=>by kernel_rfl,_,Tryz.underlying71,fun w=>by kernel_rfl⟩
 ·exact ⟨fun w=>by kernel_rfl,_,Tryz.underlying72,fun w=>by kernel_rfl⟩
 ·exact ⟨fun w=>by kernel_rfl,_,Tryz.underlying73,fun w=>by kernel_rfl⟩
 ·exact ⟨fun w=>by kernel_rfl,_,Tryz.underlying74,fun w=>by kernel_rfl⟩
 ·exact ⟨fun w=>by kernel_rfl,_,Tryz.underlying75,fun w=>by kernel_rfl⟩
 ·exact ⟨fun w=>by kernel_rfl,_,Tryz.underlying127,fun w=>by kernel_rfl⟩
 ·exact ⟨fun w=>by kernel_rfl,_,Tryz.underlying128,fun w=>by kernel_rfl⟩
 ·exact ⟨fun w=>by kernel_rfl,_,Tryz.underlying133,fun w=>by kernel_rfl⟩
 ·exact ⟨fun w=>by kernel_rfl,_,Tryz.underlying134,fun w=>by kernel_rfl⟩
 ·exact ⟨fun w=>by kernel_rfl,_,Tryz.underlying142,fun w=>by kernel_rfl⟩
 ·exact ⟨fun w=>by kernel_rfl,_,Tryz.underlying143,fun w=>by kernel_rfl⟩
 ·exact ⟨fun w=>by kernel_rfl,_,Tryz.underlying168,fun w=>by kernel_rfl⟩
 ·exact ⟨fun w=>by kernel_rfl,_,Tryz.underlying169,fun w=>by kernel_rfl⟩
 ·exact ⟨fun w=>by kernel_rfl,_,Tryz.underlying175,fun w=>by kernel_rfl⟩
 ·exact ⟨fun w=>by kernel_rfl,_,Tryz.underlying176,fun w=>by kernel_rfl⟩
 ·exact ⟨fun w=>by kernel_rfl,_,Tryz.underlying225,fun w=>by kernel_rfl⟩
 ·exact ⟨fun w=>by kernel_rfl,_,Tryz.underlying226,fun w=>by kernel_rfl⟩
 ·exact ⟨fun w=>by kernel_rfl,_,Tryz.underlying232,fun w=>by kernel_rfl⟩
 ·exact ⟨fun w=>by kernel_rfl,_,Tryz.underlying233,fun w=>by kernel_rfl⟩
def iTab:List (Nat × IntKind):=[(2,IntKind.i64),(3,IntKind.i64),(5,IntKind.u8),(48,IntKind.i64),(103,IntKind.u64),(252,IntKind.u64),(362,IntKind.i64)]
theorem iTab_ok:∀ e ∈ iTab,TI Tryz.prog e.1 e.2:=by
 simp only [iTab,List.forall_mem_cons];refine ⟨?_,?_,?_,?_,?_,?_,?_,List.forall_mem_nil _⟩;all_goals (show _=_;kernel_rfl)
def get3:List (Nat × Nat × Nat)->Nat->Nat->Option Nat
 | [],_,_=>none
 | (a,b,c)::r,s,f=>bif Nat.beq s a&&Nat.beq f b then some c else get3 r s f
def Zfe:List (Nat × Nat × Nat)->Nat->Option (Nat × Nat)
 | [],_=>none
 | (a,b,c)::r,s=>bif Nat.beq s a then some (b,c) else Zfe r s
def get2:List (Nat × Nat)->Nat->Option Nat
 | [],_=>none
 | (a,b)::r,s=>bif Nat.beq s a then some b else get2 r s
def getZ:List (Nat × List Value)->Nat->Option (List Value)
 | [],_=>none
 | (a,b)::r,s=>bif Nat.beq s a then some b else getZ r s
def getA:List (Nat × Nat × Nat × Nat × Value)->Nat->Option (Nat × Nat × Nat × Value)
 | [],_=>none
 | (a,b)::r,s=>bif Nat.beq s a then some b else getA r s
def getB:List (Nat × List Value × List (Nat × Nat))->Nat->Option (List Value × List (Nat × Nat))
 | [],_=>none
 | (a,b)::r,s=>bif Nat.beq s a then some b else getB r s
def getK:List (Nat × IntKind)->Nat->Option IntKind
 | [],_=>none
 | (a,b)::r,s=>bif Nat.beq s a then some b else getK r s
def get1:List Nat->Nat->Bool
 | [],_=>false
 | a::r,s=>bif Nat.beq s a then true else get1 r s
theorem Zfc:∀ (l:List (Nat × Nat × Nat)) (s f k:Nat),get3 l s f=some k->(s,f,k) ∈ l
 | [],_,_,_,h=>by simp [get3] at h
 | (a,b,c)::r,s,f,k,h=>by
  simp only [get3] at h;cases h1:Nat.beq s a&&Nat.beq f b with
  | true =>
   rw [h1] at h;rw [Bool.and_eq_true] at h1;have e1:=Nat.eq_of_beq_eq_true h1.1;have e2:=Nat.eq_of_beq_eq_true h1.2;have e3:c=k:=Option.some.inj h;subst e1;subst e2;subst e3;exact List.mem_cons_self
  | false=>rw [h1] at h;exact List.mem_cons_of_mem _ (Zfc r s f k h)
theorem Ae:∀ (l:List (Nat × Nat × Nat)) (s b c:Nat),Zfe l s=some (b,c)->(s,b,c) ∈ l
 | [],_,_,_,h=>by simp [Zfe] at h
 | (a,b',c')::r,s,b,c,h=>by
  simp only [Zfe] at h;cases h1:Nat.beq s a with
  | true =>
   rw [h1] at h;have e1:=Nat.eq_of_beq_eq_true h1;have e2:(b',c')=(b,c):=Option.some.inj h;cases e2;subst e1;exact List.mem_cons_self
  | false=>rw [h1] at h;exact List.mem_cons_of_mem _ (Ae r s b c h)
theorem Zfd:∀ (l:List (Nat × Nat)) (s b:Nat),get2 l s=some b->(s,b) ∈ l
 | [],_,_,h=>by simp [get2] at h
 | (a,b')::r,s,b,h=>by
  simp only [get2] at h;cases h1:Nat.beq s a with
  | true =>
   rw [h1] at h;have e1:=Nat.eq_of_beq_eq_true h1;have e2:b'=b:=Option.some.inj h;subst e1;subst e2;exact List.mem_cons_self
  | false=>rw [h1] at h;exact List.mem_cons_of_mem _ (Zfd r s b h)
theorem Zez:∀ (l:List (Nat × IntKind)) (s:Nat) (b:IntKind),getK l s=some b->(s,b) ∈ l
 | [],_,_,h=>by simp [getK] at h
 | (a,b')::r,s,b,h=>by
  simp only [getK] at h;cases h1:Nat.beq s a with
  | true =>
   rw [h1] at h;have e1:=Nat.eq_of_beq_eq_true h1;have e2:b'=b:=Option.some.inj h;subst e1;subst e2;exact List.mem_cons_self
  | false=>rw [h1] at h;exact List.mem_cons_of_mem _ (Zez r s b h)
theorem Zey:∀ (l:List (Nat × List Value)) (s:Nat) (b:List Value),getZ l s=some b->(s,b) ∈ l
 | [],_,_,h=>by simp [getZ] at h
 | (a,b')::r,s,b,h=>by
  simp only [getZ] at h;cases h1:Nat.beq s a with
  | true =>
   rw [h1] at h;have e1:=Nat.eq_of_beq_eq_true h1;have e2:b'=b:=Option.some.inj h;subst e1;subst e2;exact List.mem_cons_self
  | false=>rw [h1] at h;exact List.mem_cons_of_mem _ (Zey r s b h)
theorem Zfb:∀ (l:List (Nat × Nat × Nat × Nat × Value)) (s:Nat) (b:Nat × Nat × Nat × Value),getA l s=some b->(s,b) ∈ l
 | [],_,_,h=>by simp [getA] at h
 | (a,b')::r,s,b,h=>by
  simp only [getA] at h;cases h1:Nat.beq s a with
  | true =>
   rw [h1] at h;have e1:=Nat.eq_of_beq_eq_true h1;have e2:b'=b:=Option.some.inj h;subst e1;subst e2;exact List.mem_cons_self
  | false=>rw [h1] at h;exact List.mem_cons_of_mem _ (Zfb r s b h)
theorem Zfa:∀ (l:List (Nat × List Value × List (Nat × Nat))) (s:Nat) (b:List Value × List (Nat × Nat)),getB l s=some b->(s,b) ∈ l
 | [],_,_,h=>by simp [getB] at h
 | (a,b')::r,s,b,h=>by
  simp only [getB] at h;cases h1:Nat.beq s a with
  | true =>
   rw [h1] at h;have e1:=Nat.eq_of_beq_eq_true h1;have e2:b'=b:=Option.some.inj h;subst e1;subst e2;exact List.mem_cons_self
  | false=>rw [h1] at h;exact List.mem_cons_of_mem _ (Zfa r s b h)
theorem D8:∀ (l:List Nat) (s:Nat),get1 l s=true->s ∈ l
 | [],_,h=>by simp [get1] at h
 | a::r,s,h=>by
  simp only [get1] at h;cases h1:Nat.beq s a with
  | true =>
   have e1:=Nat.eq_of_beq_eq_true h1;subst e1;exact List.mem_cons_self
  | false=>rw [h1] at h;exact List.mem_cons_of_mem _ (D8 r s h)
theorem ff {s f k:Nat} (h:get3 fTab s f=some k):FF Tryz.prog s f k:=fTab_ok (s,f,k) (Zfc _ _ _ _ h)
theorem t1 {t:Nat} (h:get1 Zhn t=true):T1 Tryz.prog t:=Zni t (D8 _ _ h)
theorem tz {t:Nat} {zs:List Value} (h:getZ zTab t=some zs):TZ Tryz.prog t zs:=zTab_ok (t,zs) (Zey _ _ _ h)
theorem ta {t e size bytes:Nat} {z:Value} (h:getA aTab t=some (e,size,bytes,z)):TA Tryz.prog t e size bytes z:=aTab_ok (t,e,size,bytes,z) (Zfb _ _ _ h)
theorem tb {t:Nat} {zs:List Value} {pl:List (Nat × Nat)} (h:getB bTab t=some (zs,pl)):TB Tryz.prog t zs pl:=bTab_ok (t,zs,pl) (Zfa _ _ _ h)
theorem tn {t k:Nat} (h:get2 nTab t=some k):TN Tryz.prog t k:=nTab_ok (t,k) (Zfd _ _ _ h)
theorem ts {t e k:Nat} (h:Zfe sTab t=some (e,k)):TS Tryz.prog t e k:=sTab_ok (t,e,k) (Ae _ _ _ _ h)
theorem Np {t:Nat} (h:get1 Zgq t=true):TStr Tryz.prog t:=Zmo t (D8 _ _ h)
theorem P1 {t:Nat} {k:IntKind} (h:getK iTab t=some k):TI Tryz.prog t k:=iTab_ok (t,k) (Zez _ _ _ h)
theorem fn59:IsFn Tryz.prog 59:=⟨_,Tryz.func59,by kernel_rfl,by kernel_rfl⟩
theorem fn66:IsFn Tryz.prog 66:=⟨_,Tryz.func66,by kernel_rfl,by kernel_rfl⟩
theorem fn67:IsFn Tryz.prog 67:=⟨_,Tryz.func67,by kernel_rfl,by kernel_rfl⟩
theorem fn68:IsFn Tryz.prog 68:=⟨_,Tryz.func68,by kernel_rfl,by kernel_rfl⟩
theorem fn69:IsFn Tryz.prog 69:=⟨_,Tryz.func69,by kernel_rfl,by kernel_rfl⟩
theorem fn70:IsFn Tryz.prog 70:=⟨_,Tryz.func70,by kernel_rfl,by kernel_rfl⟩
theorem fn71:IsFn Tryz.prog 71:=⟨_,Tryz.func71,by kernel_rfl,by kernel_rfl⟩
theorem fn103:IsFn Tryz.prog 103:=⟨_,Tryz.func103,by kernel_rfl,by kernel_rfl⟩
theorem Xq:IsFn Tryz.prog 111:=⟨_,Tryz.func111,by kernel_rfl,by kernel_rfl⟩
theorem Zsu:IsFn Tryz.prog 112:=⟨_,Tryz.func112,by kernel_rfl,by kernel_rfl⟩
theorem Ld:IsFn Tryz.prog 113:=⟨_,Tryz.func113,by kernel_rfl,by kernel_rfl⟩
theorem fn114:IsFn Tryz.prog 114:=⟨_,Tryz.func114,by kernel_rfl,by kernel_rfl⟩
theorem Mn:IsFn Tryz.prog 115:=⟨_,Tryz.func115,by kernel_rfl,by kernel_rfl⟩
theorem fn116:IsFn Tryz.prog 116:=⟨_,Tryz.func116,by kernel_rfl,by kernel_rfl⟩
theorem fn117:IsFn Tryz.prog 117:=⟨_,Tryz.func117,by kernel_rfl,by kernel_rfl⟩
theorem fn118:IsFn Tryz.prog 118:=⟨_,Tryz.func118,by kernel_rfl,by kernel_rfl⟩
theorem fn120:IsFn Tryz.prog 120:=⟨_,Tryz.func120,by kernel_rfl,by kernel_rfl⟩
theorem Lc:IsFn Tryz.prog 121:=⟨_,Tryz.func121,by kernel_rfl,by kernel_rfl⟩
theorem O9:IsFn Tryz.prog 122:=⟨_,Tryz.func122,by kernel_rfl,by kernel_rfl⟩
theorem fn123:IsFn Tryz.prog 123:=⟨_,Tryz.func123,by kernel_rfl,by kernel_rfl⟩
theorem Zfi:IsFn Tryz.prog 124:=⟨_,Tryz.func124,by kernel_rfl,by kernel_rfl⟩
theorem fn125:IsFn Tryz.prog 125:=⟨_,Tryz.func125,by kernel_rfl,by kernel_rfl⟩
theorem fn131:IsFn Tryz.prog 131:=⟨_,Tryz.func131,by kernel_rfl,by kernel_rfl⟩
theorem Lb:IsFn Tryz.prog 139:=⟨_,Tryz.func139,by kernel_rfl,by kernel_rfl⟩
theorem fn140:IsFn Tryz.prog 140:=⟨_,Tryz.func140,by kernel_rfl,by kernel_rfl⟩
theorem fn141:IsFn Tryz.prog 141:=⟨_,Tryz.func141,by kernel_rfl,by kernel_rfl⟩
theorem Zst:IsFn Tryz.prog 180:=⟨_,Tryz.func180,by kernel_rfl,by kernel_rfl⟩
theorem fn181:IsFn Tryz.prog 181:=⟨_,Tryz.func181,by kernel_rfl,by kernel_rfl⟩
theorem Zfh:IsFn Tryz.prog 182:=⟨_,Tryz.func182,by kernel_rfl,by kernel_rfl⟩
theorem Zkt:IsFn Tryz.prog 183:=⟨_,Tryz.func183,by kernel_rfl,by kernel_rfl⟩
theorem fn184:IsFn Tryz.prog 184:=⟨_,Tryz.func184,by kernel_rfl,by kernel_rfl⟩
theorem Am:IsFn Tryz.prog 185:=⟨_,Tryz.func185,by kernel_rfl,by kernel_rfl⟩
theorem fn186:IsFn Tryz.prog 186:=⟨_,Tryz.func186,by kernel_rfl,by kernel_rfl⟩
theorem fn187:IsFn Tryz.prog 187:=⟨_,Tryz.func187,by kernel_rfl,by kernel_rfl⟩
theorem fn188:IsFn Tryz.prog 188:=⟨_,Tryz.func188,by kernel_rfl,by kernel_rfl⟩
theorem fn189:IsFn Tryz.prog 189:=⟨_,Tryz.func189,by kernel_rfl,by kernel_rfl⟩
theorem fn190:IsFn Tryz.prog 190:=⟨_,Tryz.func190,by kernel_rfl,by kernel_rfl⟩
theorem Zss:IsFn Tryz.prog 191:=⟨_,Tryz.func191,by kernel_rfl,by kernel_rfl⟩
theorem Zks:IsFn Tryz.prog 192:=⟨_,Tryz.func192,by kernel_rfl,by kernel_rfl⟩
theorem Al:IsFn Tryz.prog 193:=⟨_,Tryz.func193,by kernel_rfl,by kernel_rfl⟩
theorem fn194:IsFn Tryz.prog 194:=⟨_,Tryz.func194,by kernel_rfl,by kernel_rfl⟩
theorem fn195:IsFn Tryz.prog 195:=⟨_,Tryz.func195,by kernel_rfl,by kernel_rfl⟩
theorem fn196:IsFn Tryz.prog 196:=⟨_,Tryz.func196,by kernel_rfl,by kernel_rfl⟩
theorem fn242:IsFn Tryz.prog 242:=⟨_,Tryz.func242,by kernel_rfl,by kernel_rfl⟩
theorem fn243:IsFn Tryz.prog 243:=⟨_,Tryz.func243,by kernel_rfl,by kernel_rfl⟩
theorem fn244:IsFn Tryz.prog 244:=⟨_,Tryz.func244,by kernel_rfl,by kernel_rfl⟩
theorem Zfg:IsFn Tryz.prog 245:=⟨_,Tryz.func245,by kernel_rfl,by kernel_rfl⟩
theorem Zff:IsFn Tryz.prog 246:=⟨_,Tryz.func246,by kernel_rfl,by kernel_rfl⟩
theorem fn247:IsFn Tryz.prog 247:=⟨_,Tryz.func247,by kernel_rfl,by kernel_rfl⟩
theorem fn248:IsFn Tryz.prog 248:=⟨_,Tryz.func248,by kernel_rfl,by kernel_rfl⟩
theorem fn283:IsFn Tryz.prog 283:=⟨_,Tryz.func283,by kernel_rfl,by kernel_rfl⟩
theorem Zkr:IsFn Tryz.prog 284:=⟨_,Tryz.func284,by kernel_rfl,by kernel_rfl⟩
theorem fn285:IsFn Tryz.prog 285:=⟨_,Tryz.func285,by kernel_rfl,by kernel_rfl⟩
theorem fn286:IsFn Tryz.prog 286:=⟨_,Tryz.func286,by kernel_rfl,by kernel_rfl⟩
theorem fn318:IsFn Tryz.prog 318:=⟨_,Tryz.func318,by kernel_rfl,by kernel_rfl⟩
theorem fn319:IsFn Tryz.prog 319:=⟨_,Tryz.func319,by kernel_rfl,by kernel_rfl⟩
theorem Ak:IsFn Tryz.prog 320:=⟨_,Tryz.func320,by kernel_rfl,by kernel_rfl⟩
theorem Aj:IsFn Tryz.prog 321:=⟨_,Tryz.func321,by kernel_rfl,by kernel_rfl⟩
theorem Ai:IsFn Tryz.prog 322:=⟨_,Tryz.func322,by kernel_rfl,by kernel_rfl⟩
theorem Ah:IsFn Tryz.prog 323:=⟨_,Tryz.func323,by kernel_rfl,by kernel_rfl⟩
theorem fn324:IsFn Tryz.prog 324:=⟨_,Tryz.func324,by kernel_rfl,by kernel_rfl⟩
theorem Zsr:IsFn Tryz.prog 354:=⟨_,Tryz.func354,by kernel_rfl,by kernel_rfl⟩
theorem fn355:IsFn Tryz.prog 355:=⟨_,Tryz.func355,by kernel_rfl,by kernel_rfl⟩
theorem fn356:IsFn Tryz.prog 356:=⟨_,Tryz.func356,by kernel_rfl,by kernel_rfl⟩
theorem Zsq:IsFn Tryz.prog 357:=⟨_,Tryz.func357,by kernel_rfl,by kernel_rfl⟩
theorem fn358:IsFn Tryz.prog 358:=⟨_,Tryz.func358,by kernel_rfl,by kernel_rfl⟩
theorem Xy:(Tryz.prog).follows .mixedOrders=true:=by kernel_rfl
end E
section
open Go Go.RowKit E
structure WrAt (u w:World) (b:Nat) (v:Value) (bs:List UInt8):Prop where
 base:Below u.heap.size u w
 hb:u.heap.size<=b
 cell:∃ t,w.heap[b]?=some (.cells #[v] t (0,0))
 own:w.ownsRow 0 5 1 v bs.length (bs.map Si)
 apart:∀ g,v.ownBlock=some g->g≠b/\u.heap.size<=g
def wrA (v:Value) (bs:List UInt8):Asr:=Asr.and (Tz 5 1 v bs.length (bs.map Si)) Asr.none
def WrZ (u:World) (b:Nat) (w:World) (v:Value) (bs add:List UInt8):Ending->World->Prop:=fun e w' =>
 e=.returned (.tuple #[])/\∃ v',WrAt u w' b v' (bs++add)/\Fr (b::v.ownBlock.toList) w w'/\∀ g,v'.ownBlock=some g->v.ownBlock=some g\/w.heap.size<=g
def WrP (P:Program) (f:FuncId) (args:Array Value) (u:World) (b:Nat) (add:List UInt8):Prop :=
 ∀ w v bs,WrAt u w b v bs->bs.length+add.length<=4000000->Calls P f args w (WrZ u b w v bs add)
theorem Tf {v:Value} {k:Nat}:k ∈ v.ownBlock.toList↔v.ownBlock=some k:=by
 cases v.ownBlock<;>simp [eq_comm]
theorem Gn (v:Value) (bs:List UInt8):(wrA v bs).S=v.ownBlock.toList:=by simp [wrA,Asr.and,Tz,Asr.none]
theorem WrAt.sat {u w:World} {b:Nat} {v:Value} {bs:List UInt8} (h:WrAt u w b v bs):Sat w (b::v.ownBlock.toList) [(b,[v])] (wrA v bs) w:=by
 refine ⟨Fr.refl _ _,?_,?_,by simp,⟨h.own,trivial,by simp [Asr.none]⟩,?_,?_⟩
 ·intro p hp;simp only [List.mem_singleton] at hp;subst hp;obtain ⟨t,ht⟩:=h.cell;exact ⟨t,ht⟩
 ·intro p hp;simp only [List.mem_singleton] at hp;subst hp;exact .inl List.mem_cons_self
 ·intro k hk;rw [Gn] at hk;exact ⟨.inl (List.mem_cons_of_mem _ hk),(h.own.lt k (Tf.1 hk)).2⟩
 ·intro p hp hk;simp only [List.mem_singleton] at hp;subst hp;rw [Gn] at hk;exact (h.apart _ (Tf.1 hk)).1 J
theorem WrAt.F {u w:World} {b:Nat} {v:Value} {bs:List UInt8} (h0:WrAt u w b v bs):∀ x ∈ (b::v.ownBlock.toList),u.heap.size<=x:=by
 intro x hx;rcases List.mem_cons.1 hx with rfl | hx
 ·exact h0.hb
 ·exact (h0.apart x (Tf.1 hx)).2
theorem WrAt.out {u w:World} {b k:Nat} {v:Value} {bs:List UInt8} (h0:WrAt u w b v bs) (hk:k<u.heap.size):k ∉ (b::v.ownBlock.toList):=fun hx=>by have:=h0.F k hx;omega
section
variable {P:Program} {n:Nat} {E:Env} {w0:World} {F:List Nat} {H:Hp} {fn:Func} {κ:List Kf}
theorem Zuf {u w0 w:World} {F:List Nat} {H:Hp} {R:Asr} (hu:Below u.heap.size u w0) (hF:∀ x ∈ F,u.heap.size<=x) (hs:Sat w0 F H R w):Below u.heap.size u w :=
 ⟨hs.low.os.trans hu.os,hs.low.tape.trans hu.tape,hs.low.output.trans hu.output,Nat.le_trans hu.size hs.low.size,fun k hk=>by
  rw [hs.low.block k (Nat.lt_of_lt_of_le hk hu.size) (fun hm=>by have:=hF k hm;omega)];exact hu.block k hk⟩
theorem Zgj {u w0 w:World} {F:List Nat} {H:Hp} {b i:Nat} {v:Value} {bs:List UInt8} (hu:Below u.heap.size u w0) (hF:∀ x ∈ F,u.heap.size<=x) (hs:Sat w0 F H (wrA v bs) w) (hp:H[i]?=some (b,[v])):WrAt u w b v bs:=by
 have hm:=List.mem_of_getElem? hp;have hge:∀ k,(k ∈ F\/w0.heap.size<=k)->u.heap.size<=k:=fun k hk=>hk.elim (hF k) (fun h=>Nat.le_trans hu.size h);refine ⟨Zuf hu hF hs,hge b (hs.hi _ hm),?_,hs.res.1,fun g hg=>?_⟩
 ·obtain ⟨t,ht⟩:=hs.own _ hm;exact ⟨t,ht⟩
 ·have hS:g ∈ (wrA v bs).S:=by rw [Gn];exact Tf.2 hg
  refine ⟨fun e=>hs.rapart _ hm (by rw [e] at hS;exact hS),hge g (hs.rhi g hS).1⟩
theorem Ux {u w:World} {b i:Nat} {v v':Value} {bs bs' add:List UInt8} (h0:WrAt u w b v bs) (hr:fn.results=#[]) (hp:H[i]?=some (b,[v'])) (hbs:bs'=bs++add) :
  WQ P n .normal E w (b::v.ownBlock.toList) H (wrA v' bs') fn (WrZ u b w v bs add) [] :=
 Zlo hr fun w' hs=>by
  have hF:∀ x ∈ (b::v.ownBlock.toList),u.heap.size<=x:=by
   intro x hx;rcases List.mem_cons.1 hx with rfl | hx
   ·exact h0.hb
   ·exact (h0.apart x (Tf.1 hx)).2
  refine ⟨J,v',hbs ▸ Zgj h0.base hF hs hp,hs.low,fun g hg=>?_⟩;have hS:g ∈ (wrA v' bs').S:=by rw [Gn];exact Tf.2 hg
  rcases (hs.rhi g hS).1 with h1 | h1
  ·rcases List.mem_cons.1 h1 with rfl | h1
   ·exact absurd hS (hs.rapart _ (List.mem_of_getElem? hp))
   ·exact .inl (Tf.1 h1)
  ·exact .inr h1
theorem wr_endr {u w:World} {b i:Nat} {v v':Value} {bs bs' add:List UInt8} (h0:WrAt u w b v bs) (hr:fn.results=#[]) (hp:H[i]?=some (b,[v'])) (hbs:bs'=bs++add) :
  WQ P n .ret E w (b::v.ownBlock.toList) H (wrA v' bs') fn (WrZ u b w v bs add) [] :=
 Zgb hr fun w' hs=>by
  have h1:WQ P n .normal E w (b::v.ownBlock.toList) H (wrA v' bs') fn (WrZ u b w v bs add) []:=Ux h0 hr hp hbs
  have hF:∀ x ∈ (b::v.ownBlock.toList),u.heap.size<=x:=by
   intro x hx;rcases List.mem_cons.1 hx with rfl | hx
   ·exact h0.hb
   ·exact (h0.apart x (Tf.1 hx)).2
  refine ⟨J,v',hbs ▸ Zgj h0.base hF hs hp,hs.low,fun g hg=>?_⟩;have hS:g ∈ (wrA v' bs').S:=by rw [Gn];exact Tf.2 hg
  rcases (hs.rhi g hS).1 with h1 | h1
  ·rcases List.mem_cons.1 h1 with rfl | h1
   ·exact absurd hS (hs.rapart _ (List.mem_of_getElem? hp))
   ·exact .inl (Tf.1 h1)
  ·exact .inr h1
theorem wr_then {u w0 w w':World} {F:List Nat} {H:Hp} {b i:Nat} {v v':Value} {bs bs':List UInt8} (hs:Sat w0 F H (wrA v bs) w) (hp:H[i]?=some (b,[v])) (hw:WrAt u w' b v' bs') (hfr:Fr (b::v.ownBlock.toList) w w')
  (hpos:∀ g,v'.ownBlock=some g->v.ownBlock=some g\/w.heap.size<=g):Sat w0 F (H.set i (b,[v'])) (wrA v' bs') w':=by
 have hm:=List.mem_of_getElem? hp
 have hil:i<H.length:=by
  rcases Nat.lt_or_ge i H.length with h' | h'
  ·exact h'
  ·rw [List.getElem?_eq_none h'] at hp;cases hp
 have hS:∀ g,v.ownBlock=some g->g ∈ (wrA v bs).S:=fun g hg=>by rw [Gn];exact Tf.2 hg
 have hmap:(H.set i (b,[v'])).map (·.1)=H.map (·.1):=by
  rw [List.map_set];exact Ou (by rw [List.getElem?_map,hp];rfl)
 have hkeep:∀ p ∈ H.set i (b,[v']),p=(b,[v'])\/(p ∈ H/\p.1≠b):=by
  intro p hpm;obtain ⟨j,hj⟩:=List.mem_iff_getElem?.1 hpm;rw [List.getElem?_set] at hj;split at hj
  ·cases hj;exact .inl J
  ·rename_i hij
   refine .inr ⟨List.mem_of_getElem? hj,fun e=>?_⟩;have h1:(H.map (·.1))[i]?=some b:=by rw [List.getElem?_map,hp];rfl
   have h2:(H.map (·.1))[j]?=some b:=by rw [List.getElem?_map,hj,<- e];rfl
   exact hij (L7 hs.apart h1 h2)
 refine ⟨hs.low.trans hfr ?_,?_,?_,by rw [hmap];exact hs.apart,⟨hw.own,trivial,by simp [Asr.none]⟩,?_,?_⟩
 ·intro x hx;rcases List.mem_cons.1 hx with rfl | hx
  ·exact hs.hi _ hm
  ·exact (hs.rhi x (hS x (Tf.1 hx))).1
 ·intro p hpm;rcases hkeep p hpm with rfl | ⟨hq,hne⟩
  ·obtain ⟨t,ht⟩:=hw.cell;exact ⟨t,ht⟩
  ·rw [hfr.block p.1 (hs.lt hq) (fun hx=>by
    rcases List.mem_cons.1 hx with e | hx
    ·exact hne e
    ·exact hs.rapart p hq (hS _ (Tf.1 hx)))]
   exact hs.own p hq
 ·intro p hpm;rcases hkeep p hpm with rfl | ⟨hq,_⟩
  ·exact hs.hi (b,[v]) hm
  ·exact hs.hi p hq
 ·intro k hk;rw [Gn] at hk;have hk':=Tf.1 hk;refine ⟨?_,(hw.own.lt k hk').2⟩;rcases hpos k hk' with h1 | h1
  ·exact (hs.rhi k (hS k h1)).1
  ·exact .inr (Nat.le_trans hs.low.size h1)
 ·intro p hpm hk;rw [Gn] at hk;have hk':=Tf.1 hk;rcases hkeep p hpm with rfl | ⟨hq,_⟩
  ·exact (hw.apart _ hk').1 J
  ·rcases hpos _ hk' with h1 | h1
   ·exact hs.rapart p hq (hS _ h1)
   ·have:=hs.lt hq;omega
theorem Y2 {Z:Ending->World->Prop} {all:Array Oper} {l:List Oper} {d f b:Nat} {xs:List Operand} {vs:List Value} {ts:Array TypeId} {t:TypeId} {p:String} {e:Array Edge} {v:Value} {bs add:List UInt8} {u:World} (hf:IsFn P f)
  (hd:Nat.blt d n=true) (hx:args E xs=some vs) (i:Nat) (hp:H[i]?=some (b,[v])) (hu:Below u.heap.size u w0) (hF:∀ x ∈ F,u.heap.size<=x) (hc:WrP P f vs.toArray u b add) (hl:bs.length+add.length<=4000000)
  (h:∀ v',WL P n all l ((d,.tuple #[])::E) w0 F (H.set i (b,[v'])) (wrA v' (bs++add)) fn Z κ) :
  WL P n all (⟨some d,.call ⟨.value (.func f),xs.toArray,ts⟩,t,p,e,none⟩::l) E w0 F H (wrA v bs) fn Z κ :=
 ⟨fun w hs a ha=>wpList_plain rfl fun K hK=>by
  unfold Oper.wp;rw [Pk rfl hf,Rv ha xs vs hx];refine (hc w v bs (Zgj hu hF hs hp) hl).mono ?_;rintro e w' ⟨rfl,v',h1,h2,h3⟩;exact hK _ _ ((h v').go w' (wr_then hs hp h1 h2 h3) _ (ha.put hd _))⟩
end
end
section
open Go Go.RowKit E
section
variable {P:Program} {n:Nat} {E:Env} {w0:World} {F:List Nat} {H:Hp} {R:Asr} {fn:Func} {Z:Ending->World->Prop} {κ:List Kf}
theorem Od {w w':World} {t u ty e:Nat} {v v':Value} {k:Nat} {xs:List Value} {s:ByteArray} (ht:TA P t e 1 1 (.int .u8 0)) (hu:TStr P u) (hown:w.ownsRow 0 e 1 v k xs)
  (h63:k+s.size<=maxLen) (hbytes:k+s.size<=140737488355328) (hr:(Builtin.append_ #[t,u] ty #[v,.string s]).run P w=.ok v' w') :
  ∀ g,v'.ownBlock=some g->v.ownBlock=some g\/w.heap.size<=g:=by
 intro g hg;obtain ⟨i,hi,hz,hs,hb⟩:=info_parts ht.inf;have hsmall:k+s.size<=9223372036854775807:=by simp only [maxLen] at h63;omega
 have hxl:xs.length=k:=by simpa using hown.1
 rcases hown.2 with ⟨rfl,rfl⟩ | ⟨g0,cap,cur,rfl,_,hg0,hnc,hcm,hcs,htake⟩
 ·by_cases hm:s.size=0
  ·have hf:=Go.Lib.run_firstCells_string (P:=P) w 1 s;rw [hm] at hf
   have hr':(Builtin.append_ #[t,u] ty #[.slice none 0 0,.string s]).run P w=.ok (.slice none 0 0) w:=by
    simp [Builtin.append_,run_underlying ht.sl,run_underlying hu,sizeOf,typeInfo,hi,hs,Builtin.lenOf,hm,hf]
   rw [hr'] at hr;cases hr;simp [Value.ownBlock] at hg
  ·have hr':=run_append_nil_string (P:=P) w t u ty e i (.int .u8 0) ht.sl hu hi hz s (by omega) (by omega) (by rw [hb];omega);rw [hr] at hr';cases hr';simp only [Value.ownBlock,Option.some.injEq] at hg;exact .inr (by omega)
 ·by_cases hroom:k+s.size<=cap
  ·have hcs':cur.size=cap:=by simpa using hcs
   have hr':=Go.Lib.run_append_room_string (P:=P) w t u ty e i ht.sl hu hi hs g0 k cap cur hg0 s hroom (by omega);rw [hr] at hr';cases hr';exact .inl hg
  ·have holds:∀ j u,xs[j]?=some u->w.cell? ((⟨g0,0,none⟩:Addr).add j)=some u:=hown.cells (g:=g0) rfl;have hr':=Go.Lib.run_append_grow_string (P:=P) w t u ty e i (.int .u8 0) ht.sl hu hi hz ⟨g0,0,none⟩ k cap xs (by rw [hs];simpa using hxl) holds s (by omega) (by omega) (by rw [hb];exact growslice_fits (by omega) (by omega));rw [hr] at hr';cases hr';simp only [Value.ownBlock,Option.some.injEq] at hg;exact .inr (by omega)
theorem WL_appS {all:Array Oper} {l:List Oper} {d:Nat} {t u ty:Nat} {v:Value} {x y:Operand} {p:String} {g:Array Edge} {bs:List UInt8} {s:ByteArray} (hd:Nat.blt d n=true) (ht:TA P t 5 1 1 (.int .u8 0)) (hu:TStr P u) (hx:ev E x=some v)
  (hy:ev E y=some (.string s)) (h63:bs.length+s.size<=4611686018427387904) (hbytes:bs.length+s.size<=140737488355328)
  (h:∀ v',WL P n all l ((d,v')::E) w0 F H (wrA v' (bs++s.data.toList)) fn Z κ) :
  WL P n all (⟨some d,.call ⟨.builtin .append,#[x,y],#[t,u]⟩,ty,p,g,none⟩::l) E w0 F H (wrA v bs) fn Z κ :=
 ⟨fun w hs a ha=>wpList_plain rfl fun K hK=>by
  have h63':bs.length+s.size<=maxLen:=by unfold maxLen;omega
  obtain ⟨i,hi,hz,hsz,hb⟩:=info_parts ht.inf;have hown:w.ownsRow 0 5 1 v bs.length (bs.map Si):=hs.res.1;obtain ⟨v',w',hr,ho,hg,_⟩:=Go.Lib.run_append_own_string w 0 t u ty 5 i ht.sl hu hi hz hsz hb v bs.length (bs.map Si) hown s h63' hbytes (Nat.zero_le _);have hw:=Od ht hu hown h63' hbytes hr
  have he:(execOp a.eval ⟨some d,.call ⟨.builtin .append,#[x,y],#[t,u]⟩,ty,p,g,none⟩).run P w=.ok (.value v') w':=by
   simp only [execOp,resolve,invoke,builtin];simp [ha.eval hx,ha.eval hy,hr]
  have e1:bs.length+s.size=(bs++s.data.toList).length:=by rw [List.length_append,Array.length_toList];rfl
  have e2:bs.map Si++Go.Lib.strCells s=(bs++s.data.toList).map Si:=by rw [List.map_append];rfl
  rw [e1,e2] at ho;unfold Oper.wp;rw [he];exact hK _ _ ((h v').go w' (hs.grown ho hg hw (Zjx ho)) _ (ha.put hd v'))⟩
theorem WL_appB {all:Array Oper} {l:List Oper} {d:Nat} {t ty:Nat} {v:Value} {x y:Operand} {p:String} {g:Array Edge} {bs:List UInt8} {c:UInt8} {b m:Nat} (hd:Nat.blt d n=true) (ht:TA P t 5 1 1 (.int .u8 0)) (hx:ev E x=some v)
  (hy:ev E y=some (.slice (some ⟨b,0,none⟩) 1 m)) (i:Nat) (hp:H[i]?=some (b,[Si c])) (h63:bs.length+1<=4611686018427387904) (hbytes:bs.length+1<=140737488355328)
  (h:∀ v',WL P n all l ((d,v')::E) w0 F H (wrA v' (bs++[c])) fn Z κ) :
  WL P n all (⟨some d,.call ⟨.builtin .append,#[x,y],#[t,t]⟩,ty,p,g,none⟩::l) E w0 F H (wrA v bs) fn Z κ:=by
 have h':∀ v',WL P n all l ((d,v')::E) w0 F H (Asr.and (Tz 5 1 v' (bs.length+1) (bs.map Si++[Si c])) Asr.none) fn Z κ:=fun v'=>by
  have:=h v';unfold wrA at this;rw [List.length_append,List.map_append] at this;exact this
 exact Jl hd ht hx hy (X2 i hp) J J (by unfold maxLen;omega) (by omega) h'
theorem Ex_shr {t t':TypeId} {x y:Operand} {k:IntKind} {i j:Int} (hx:ev E x=some (.int k i)) (hy:ev E y=some (.int k j)) (hj:decide (j<0)=false):Ex P n E w0 F H R (.binOp .shr t x y t') (.int k (i.fdiv (2 ^ min j.toNat k.bits))) :=
 Lp hx hy fun w=>by simp [binOp,Op.shift,of_decide_eq_false hj]
end
end
namespace E
open Go.RowKit
theorem teTy (d:Nat) (a b:Int) (s t:ByteArray) (w:World):(Op.equalIn (d+2) 71 (.agg #[.int .i64 a,.string s]) (.agg #[.int .i64 b,.string t])).run Tryz.prog w=.ok (decide (a=b)&&eqS s t) w:=by
 have hs:Tryz.prog.stoodInHeld 71=false:=by kernel_rfl
 have h3:∀ w:World,(Op.equalIn (d+1) 3 (.int .i64 a) (.int .i64 b)).run Tryz.prog w=.ok (a==b) w:=fun w=>run_equalIn_int w d 3 .i64 .i64 a b (P1 rfl);have h9:∀ w:World,(Op.equalIn (d+1) 9 (.string s) (.string t)).run Tryz.prog w=.ok (s.toList==t.toList) w:=fun w=>run_equalIn_string w d 9 s t (Np rfl);have e:(a==b)=decide (a=b):=by by_cases h:a=b<;>simp [h]
 have hu:=Tryz.underlying71;rw [show d+2=(d+1)+1 from rfl,Op.equalIn];simp only [Sem.run_bind,run_underlying hu,Result.andThen_ok,run_program,hs,Bool.false_eq_true,if_false];simp [part,isAgg,run_underlying (P1 (t:=3) rfl),run_underlying (Np (t:=9) rfl),h3,h9,Ie,e];by_cases h:a=b<;>cases h2:eqS s t<;>simp [h]
theorem C4 {n:Nat} {E:Env} {w0:World} {F:List Nat} {H:Hp} {R:Asr} {t':TypeId} {x y:Operand} {a b:Int} {s t:ByteArray} (hx:ev E x=some (.agg #[.int .i64 a,.string s])) (hy:ev E y=some (.agg #[.int .i64 b,.string t])) :
  Ex Tryz.prog n E w0 F H R (.binOp .eql 71 x y t') (.bool (decide (a=b)&&eqS s t)):=Ex_eqlN (by kernel_rfl) hx hy (fun w=>teTy 9998 a b s t w)
theorem Zvn {n:Nat} {E:Env} {w0:World} {F:List Nat} {H:Hp} {R:Asr} {t':TypeId} {x y:Operand} {a b:Int} {s t:ByteArray} (hx:ev E x=some (.agg #[.int .i64 a,.string s])) (hy:ev E y=some (.agg #[.int .i64 b,.string t])) :
  Ex Tryz.prog n E w0 F H R (.binOp .neq 71 x y t') (.bool (!(decide (a=b)&&eqS s t))):=Ex_neqN (by kernel_rfl) hx hy (fun w=>teTy 9998 a b s t w)
end E
namespace At
structure Ty where
 kind:Int
 cls:ByteArray
structure Rf where
 cls:ByteArray
 name:ByteArray
 params:List Ty
 ty:Ty
structure Ins where
 op:Int
 n:Int
 ref:Rf
structure Fr where
 pos:Int
 locals:List Ty
 stack:List Ty
structure Hd where
 lo:Int
 hi:Int
 pos:Int
 cls:ByteArray
structure Fld where
 name:ByteArray
 stat:Bool
 ty:Ty
structure Me where
 name:ByteArray
 stat:Bool
 params:List Ty
 result:Ty
 locals:Int
 stack:Int
 code:List Ins
 handlers:List Hd
 frames:List Fr
structure Cl where
 name:ByteArray
 super:ByteArray
 fields:List Fld
 methods:List Me
def Zbz (s:ByteArray) (j:Nat):Int:=((s.data.toList[j]?.getD 0).toNat:Int)
def Bc (c:Int):Bool:=decide (97<=c/\c<=122) || decide (65<=c/\c<=90)
def digB (c:Int):Bool:=decide (48<=c/\c<=57)
def okAt (s:ByteArray) (j:Nat):Bool:=Bc (Zbz s j) || (!(j==0)&&digB (Zbz s j))
def Xz (s:ByteArray):Bool:=decide (1<=s.size)&&decide (s.size<=12)&&(List.range s.size).all (okAt s)
theorem Zbo {s:ByteArray} (h1:1<=s.size) (h2:s.size<=12) (h:∀ j,j<s.size->okAt s j=true):Xz s=true:=by
 simp [Xz,h1,h2];exact h
theorem Kw {s:ByteArray} {j:Nat} (hj:j<s.size) (h:okAt s j=false):Xz s=false:=by
 unfold Xz;rw [Bool.and_eq_false_iff];exact .inr (by rw [List.all_eq_false];exact ⟨j,List.mem_range.2 hj,by simp [h]⟩)
theorem Ku {s:ByteArray} (h:s.size<1\/12<s.size):Xz s=false:=by
 unfold Xz;rcases h with h | h
 ·have:decide (1<=s.size)=false:=decide_eq_false (by omega);simp [this]
 ·have:decide (s.size<=12)=false:=decide_eq_false (by omega);simp [this]
theorem Zog {s:ByteArray} {k:Nat} (h:k<s.size):Zbz s k=(s[k].toNat:Int):=by
 unfold Zbz
 have:s.data.toList[k]?=some s[k]:=by
  rw [Array.getElem?_toList];exact Array.getElem?_eq_getElem h
 rw [this];rfl
theorem By {s:ByteArray} {k:Nat} (h:∀ j,j<k->okAt s j=true) (hk:okAt s k=true):∀ j,j<k+1->okAt s j=true:=by
 intro j hj;rcases Nat.lt_or_ge j k with h' | h'
 ·exact h j h'
 ·have:j=k:=by omega
  subst this;exact hk
theorem Oe {α:Type} {l:List α} {f:α->Bool} {k:Nat} (hk:k<l.length) (h:f l[k]=false):l.all f=false:=by
 rw [List.all_eq_false];exact ⟨l[k],List.getElem_mem hk,by simp [h]⟩
def Vv (t:Ty) (void odd:Bool):Bool :=
 if t.kind=0 then void&&decide (t.cls=⟨#[]⟩)
 else if t.kind=1\/t.kind=2 then decide (t.cls=⟨#[]⟩)
 else if t.kind=3 then Xz t.cls
 else if t.kind=4\/t.kind=5 then odd&&decide (t.cls=⟨#[]⟩)
 else false
def mt:ByteArray:=⟨#[]⟩
def X3 (op:Int):Int :=
 if op=1 then 1 else if op=2\/op=3 then 2 else if op=10\/op=11\/op=12\/op=13 then 3 else if op=15\/op=25\/op=26 then 4
 else if op=16\/op=17\/op=18\/op=19 then 5 else if op=20\/op=21 then 6 else if op<0\/32<op then -1 else 0
def Vl (l:List Ty) (odd:Bool):Bool:=l.all fun t=>Vv t false odd
def V9 (i:Ins) (locals:Int) (len:Nat):Bool :=
 if X3 i.op<0 then false
 else if X3 i.op<4 then
  if ¬ i.ref.cls=⟨#[]⟩\/¬ i.ref.name=⟨#[]⟩\/0<(i.ref.params.length:Int)\/¬ i.ref.ty.kind=0\/¬ i.ref.ty.cls=⟨#[]⟩ then false
  else if X3 i.op=0 then decide (i.n=0)
  else if X3 i.op=2 then decide (0<=i.n)&&decide (i.n<locals)
  else if X3 i.op=3 then decide (0<=i.n)&&decide (i.n<(len:Int))
  else true
 else if ¬ i.n=0\/Xz i.ref.cls=false then false
 else if X3 i.op=4 then decide (i.ref.name=⟨#[]⟩)&&decide ((i.ref.params.length:Int)=0)&&decide (i.ref.ty.kind=0)&&decide (i.ref.ty.cls=⟨#[]⟩)
 else if X3 i.op=5 then Xz i.ref.name&&decide ((i.ref.params.length:Int)=0)&&Vv i.ref.ty false false
 else Xz i.ref.name&&decide ((i.ref.params.length:Int)<=6)&&Vl i.ref.params false&&Vv i.ref.ty (decide (X3 i.op=6)) false
def Ro (h:Hd) (len:Nat):Bool :=
 decide (0<=h.lo)&&decide (h.lo<h.hi)&&decide (h.hi<=(len:Int))&&decide (0<=h.pos)&&decide (h.pos<(len:Int))&&(Xz h.cls || decide (h.cls=⟨#[]⟩))
def posAt (l:List Fr) (i:Nat):Int:=((l[i]?).map (·.pos)).getD (-1)
def Ki (l:List Fr) (i:Nat):Int:=if i=0 then -1 else posAt l (i - 1)
def Ml (prev:Int) (f:Fr) (locals stack:Int) (len:Nat):Bool :=
 decide (0<=f.pos)&&decide (f.pos<(len:Int))&&decide (prev<f.pos)&&decide ((f.locals.length:Int)=locals)&&decide ((f.stack.length:Int)<=stack)&&Vl f.locals true&&Vl f.stack true
def J8 (l:List Fr) (locals stack:Int) (len:Nat) (i:Nat):Bool:=match l[i]? with | some f=>Ml (Ki l i) f locals stack len | none=>true
def Nv (m:Me):Int:=if m.stat then (m.params.length:Int) else (m.params.length:Int)+1
def L9 (m:Me):Bool :=
 Xz m.name&&Vl m.params false&&Vv m.result true false&&decide ((m.params.length:Int)<=6)&&decide (Nv m<=m.locals)&&decide (m.locals<=20)&&decide (0<=m.stack)&&decide (m.stack<=20)
def Uk (m:Me):Bool :=
 L9 m&&decide (1<=(m.code.length:Int))&&decide ((m.code.length:Int)<=200)&&decide ((m.handlers.length:Int)<=10)&&decide ((m.frames.length:Int)<=60) &&
 m.code.all (fun i=>V9 i m.locals m.code.length)&&m.handlers.all (fun h=>Ro h m.code.length)&&(List.range m.frames.length).all (J8 m.frames m.locals m.stack m.code.length)
def fdNe (l:List Fld) (i k:Nat):Bool:=match l[i]? with | some f=>(match l[k]? with | some g=>decide (¬ g.name=f.name) | none=>true) | none=>true
def Zku (l:List Fld) (i:Nat):Bool:=(List.range i).all (fdNe l i)
def fdAt (l:List Fld) (i:Nat):Bool:=match l[i]? with | some f=>Xz f.name&&Vv f.ty false false&&Zku l i | none=>true
def Nr (a b:Me):Bool:=decide (a.name=b.name)&&decide (a.params.map (fun t=>(t.kind,t.cls))=b.params.map (fun t=>(t.kind,t.cls)))&&decide (a.result.kind=b.result.kind)&&decide (a.result.cls=b.result.cls)
def meNe (l:List Me) (i k:Nat):Bool:=match l[i]? with | some m=>(match l[k]? with | some g => !Nr g m | none=>true) | none=>true
def Zed (l:List Me) (i:Nat):Bool:=(List.range i).all (meNe l i)
def Bb (l:List Me) (i:Nat):Bool:=match l[i]? with | some m=>Uk m&&Zed l i | none=>true
def Xg (c:Cl):Bool :=
 Xz c.name&&Xz c.super&&decide ((c.fields.length:Int)<=20)&&decide ((c.methods.length:Int)<=20)&&(List.range c.fields.length).all (fdAt c.fields)&&(List.range c.methods.length).all (Bb c.methods)
theorem Ap {l:List Fld} {i k:Nat} (hi:i<l.length) (hk:k<l.length):fdNe l i k=decide (¬ l[k].name=l[i].name):=by
 simp [fdNe,List.getElem?_eq_getElem hi,List.getElem?_eq_getElem hk]
theorem B5 {l:List Me} {i k:Nat} (hi:i<l.length) (hk:k<l.length):meNe l i k = !Nr l[k] l[i]:=by
 simp [meNe,List.getElem?_eq_getElem hi,List.getElem?_eq_getElem hk]
theorem Ka {l:List Fld} {i:Nat} (hi:i<l.length):fdAt l i=(Xz l[i].name&&Vv l[i].ty false false&&Zku l i):=by
 simp [fdAt,List.getElem?_eq_getElem hi]
theorem Hq {l:List Me} {i:Nat} (hi:i<l.length):Bb l i=(Uk l[i]&&Zed l i):=by
 simp [Bb,List.getElem?_eq_getElem hi]
theorem Iu {α:Type} {l:List α} {f:α->Bool} {k:Nat} (hk:k<l.length) (h:(l.take k).all f=true) (hf:f l[k]=true):(l.take (k+1)).all f=true:=by
 rw [List.take_succ_eq_append_getElem hk,List.all_append,h];simp [hf]
theorem Zcc {α:Type} {l:List α} {f:α->Bool} {k:Nat} (hk:¬ k<l.length) (h:(l.take k).all f=true):l.all f=true:=by
 rw [List.take_of_length_le (by omega)] at h;exact h
theorem R6 {f:Nat->Bool} {k:Nat} (h:(List.range k).all f=true) (hf:f k=true):(List.range (k+1)).all f=true:=by
 rw [List.range_succ,List.all_append,h];simp [hf]
theorem Uv {f:Nat->Bool} {n k:Nat} (hk:k<n) (h:f k=false):(List.range n).all f=false:=by
 rw [List.all_eq_false];exact ⟨k,List.mem_range.2 hk,by simp [h]⟩
theorem Q8 {f:Nat->Bool} {n k:Nat} (hk:k<=n) (hn:¬ k<n) (h:(List.range k).all f=true):(List.range n).all f=true:=by
 have:k=n:=by omega
 rw [<- this];exact h
end At
end Go.Proofs.YtpofmnfkdkmieaaGreat
