/- What is proved here: an instruction of code that only reckons -/
import Derived.Test.YtpofmnfkdkmieaaGreatQ34
import Derived.Test.YtpofmnfkdkmieaaGreatQ30
import Derived.Test.YtpofmnfkdkmieaaGreatQ35
import Derived.Test.YtpofmnfkdkmieaaGreatQ36
import Derived.Test.YtpofmnfkdkmieaaGreatQ28
set_option linter.unusedVariables false
set_option linter.unusedSimpArgs false
namespace Go.Proofs.YtpofmnfkdkmieaaGreat
namespace S
open Go Go.RowKit E
abbrev bxs (T:Nat):Ch:=[(T+96,.cells nT),(T+11,.cells [.sl (T+4) 0 2 0]),(T+4,.row 71 2 2 (nT++nT)),(T+12,.cells nT),(T+106,.cells [.sl (T+63) 0 1 0]),(T+63,.row 71 2 1 nT),(T+107,.cells nT)]
structure Wc where
 (w lp T:Nat) (c0 c1 c2 c3 gr m0 m1 m2 m4 m5 m7 m8 m9:SV) (nu dp:Int)
abbrev Wc.W (x:Wc) (at_:Int) (st:SV) (re:Bool):SB:=.cells [x.c0,x.c1,x.c2,x.c3,x.gr,Zi x.nu,x.m0,x.m1,x.m2,Zi 0,x.m4,x.m5,Zi x.dp,x.m7,x.m8,x.m9,Zi at_,.sl x.lp 0 3 0,st,Zb re]
abbrev Wc.H (x:Wc) (at_:Int) (re:Bool) (s k ln:Nat) (lc:List SV):Ch:=[(x.w,x.W at_ (.sl s 0 ln 0) re),(s,.row 71 2 k (sC k)),(x.lp,.row 71 2 3 lc)]++bxs x.T
abbrev Wc.H0 (x:Wc) (at_:Int) (lc:List SV):Ch:=[(x.w,x.W at_ (Zz) true),(x.lp,.row 71 2 3 lc)]++bxs x.T
def Mf (lc:List SV) (p:Nat):Prop:=lc.length=6/\∀ j,j<3->2*j+2<=p->cutAt lc (0+j*2) 2=nT
theorem cut_put {lc:List SV} {i j:Nat} (h:lc.length=6) (hi:i<3) (hj:j<3) (hc:i≠j->cutAt lc (0+j*2) 2=nT):cutAt (sput lc (0+i*2) nT) (0+j*2) 2=nT:=by
 match lc,h with
 | [a,b,c,d,e,f],_ =>
  match i,j,hi,hj with
  | 0,0,_,_ | 1,1,_,_ | 2,2,_,_=>rfl
  | 0,1,_,_ | 0,2,_,_ | 1,0,_,_ | 1,2,_,_ | 2,0,_,_ | 2,1,_,_=>exact hc (by decide)
theorem len_put {lc:List SV} {i:Nat} (h:lc.length=6) (hi:i<3):(sput lc (0+i*2) nT).length=6:=by
 match lc,h with
 | [a,b,c,d,e,f],_ =>
  match i,hi with
  | 0,_ | 1,_ | 2,_=>rfl
section
set_option maxRecDepth 10000
variable {x:Wc} {N s k ln p op:Nat} {n at_:Int} {qa:Option Addr} {qb:Nat} {lc:List SV}
structure TbRow (T op:Nat) (t1 t2:SV) (e:Bool):Prop where
 lt:op<33
 o1:sOne t1=true
 o2:sOne t2=true
 row:cutAt (tabK T) (0+op*4) 4=[t1,t2,Zb false,Zb e]
 en:e=decide (op=22)
theorem do_good (hx:OkAt p ln (op,n)) (hk:ln<=k) (hb:k<=1000) (hd:(dpS ln (op,n):Int)<=x.dp) (hb':dpS ln (op,n)<=1000) (hl:Mf lc p) (hq:∀ j,j<3->p=2*j+1->(op,n)=(3,.ofNat j)) :
  ∃ t1 t2 e,TbRow x.T op t1 t2 e/\∃ s' k' lc' N',dpS ln (op,n)<=k'/\k'<=1000/\Mf lc' (p+1) /\
   HF Tryz.prog 162 [.ptr x.w 0,.agg [t1,t2,Zb false,Zb e],.agg (Kp op n qa qb)] N (x.H at_ true s k ln lc) fun u n' h=>u=.tup []/\n'=N'/\h=x.H at_ (!e) s' k' (dpS ln (op,n)) lc':=by
 have hsame:op≠3->Mf lc (p+1):=fun h3=>⟨hl.1,fun j hj hp=>by
  rcases Nat.lt_or_ge (2*j+1) p with h | h
  ·exact hl.2 j hj (by omega)
  ·have:=hq j hj (by omega);cases this;exact absurd J h3⟩
 cases hx with
 | push=>exact ⟨_,_,_,⟨by decide,rfl,rfl,Zal,rfl⟩,_,_,lc,_,Nat.le_refl _,hb',hsame (by decide),HF.pick (k:=10) (k2:=10) [0,1,3] [2,4,5,6,7,8,9] [0,1,3,2,4,5,6,7,8,9] (Zte hk hb (by simp [dpS] at hd;omega)) rfl (by decide) rfl (by decide) rfl⟩
 | read=>exact ⟨_,_,_,⟨by decide,rfl,rfl,Fw,rfl⟩,_,_,lc,_,Nat.le_refl _,hb',hsame (by decide),HF.pick (k:=10) (k2:=10) [0,1,9] [2,3,4,5,6,7,8] [0,1,3,4,5,6,7,8,9,2] (Zte hk hb (by simp [dpS] at hd;omega)) rfl (by decide) rfl (by decide) rfl⟩
 | load hj hp=>exact ⟨_,_,_,⟨by decide,rfl,rfl,Zpd,rfl⟩,_,_,lc,_,Nat.le_refl _,hb',hsame (by decide),HF.pick (k:=10) (k2:=10) [0,1,2] [3,4,5,6,7,8,9] [0,1,2,3,4,5,6,7,8,9] (Ztd hj (hl.2 _ hj (by omega)) hk hb (by simp [dpS] at hd;omega)) rfl (by decide) rfl (by decide) rfl⟩
 | store hj hn =>
  rename_i j
  obtain ⟨m,rfl⟩:∃ m,ln=m+1:=⟨ln - 1,by omega⟩;refine ⟨_,_,_,⟨by decide,J,J,tabK_3,J⟩,_,k,_,_,(by show m+1 - 1<=k;omega),hb,⟨len_put hl.1 hj,fun i hi hp=>cut_put hl.1 hj hi fun hne=>?_⟩,HF.pick (k:=10) (k2:=10) [0,1,2] [3,4,5,6,7,8,9] [0,1,2,3,4,5,6,7,8,9] (Ztb hl.1 hj hk hb) rfl (by decide) rfl (by decide) rfl⟩;rcases Nat.lt_or_ge (2*i+1) p with h | h
  ·exact hl.2 i hi (by omega)
  ·have:=hq i hi (by omega);simp at this;exact absurd (Int.ofNat.inj this) hne
 | pop hn =>
  obtain ⟨m,rfl⟩:∃ m,ln=m+1:=⟨ln - 1,by omega⟩;exact ⟨_,_,_,⟨by decide,J,J,tabK_4,J⟩,_,k,lc,_,(by show m+1 - 1<=k;omega),hb,hsame (by decide),HF.pick (k:=10) (k2:=10) [0,1] [2,3,4,5,6,7,8,9] [0,1,2,3,4,5,6,7,8,9] (do_pop hk hb) rfl (by decide) rfl (by decide) rfl⟩
 | print hn =>
  obtain ⟨m,rfl⟩:∃ m,ln=m+1:=⟨ln - 1,by omega⟩;exact ⟨_,_,_,⟨by decide,J,J,tabK_27,J⟩,_,k,lc,_,(by show m+1 - 1<=k;omega),hb,hsame (by decide),HF.pick (k:=10) (k2:=10) [0,1,7,8] [2,3,4,5,6,9] [0,1,4,5,6,7,8,2,3,9] (Ztc hk hb) rfl (by decide) rfl (by decide) rfl⟩
 | back=>exact ⟨_,_,_,⟨by decide,rfl,rfl,tabK_22,rfl⟩,_,k,lc,_,hk,hb,hsame (by decide),HF.pick (k:=10) (k2:=10) [0] [1,2,3,4,5,6,7,8,9] [0,1,2,3,4,5,6,7,8,9] do_ret rfl (by decide) rfl (by decide) rfl⟩
 | add hn =>
  obtain ⟨m,rfl⟩:∃ m,ln=m+2:=⟨ln - 2,by omega⟩;exact ⟨_,_,_,⟨by decide,J,J,tabK_6,J⟩,_,_,lc,_,Nat.le_refl _,hb',hsame (by decide),HF.pick (k:=10) (k2:=10) [0,1,4,5,6] [2,3,7,8,9] [0,1,5,6,2,3,4,7,8,9] (Kb hk hb (by simp [dpS] at hd;omega)) rfl (by decide) rfl (by decide) rfl⟩
 | sub hn =>
  obtain ⟨m,rfl⟩:∃ m,ln=m+2:=⟨ln - 2,by omega⟩;exact ⟨_,_,_,⟨by decide,J,J,tabK_7,J⟩,_,_,lc,_,Nat.le_refl _,hb',hsame (by decide),HF.pick (k:=10) (k2:=10) [0,1,4,5,6] [2,3,7,8,9] [0,1,5,6,2,3,4,7,8,9] (Kb hk hb (by simp [dpS] at hd;omega)) rfl (by decide) rfl (by decide) rfl⟩
 | mul hn =>
  obtain ⟨m,rfl⟩:∃ m,ln=m+2:=⟨ln - 2,by omega⟩;exact ⟨_,_,_,⟨by decide,J,J,tabK_8,J⟩,_,_,lc,_,Nat.le_refl _,hb',hsame (by decide),HF.pick (k:=10) (k2:=10) [0,1,4,5,6] [2,3,7,8,9] [0,1,5,6,2,3,4,7,8,9] (Kb hk hb (by simp [dpS] at hd;omega)) rfl (by decide) rfl (by decide) rfl⟩
 | div hn =>
  obtain ⟨m,rfl⟩:∃ m,ln=m+2:=⟨ln - 2,by omega⟩;exact ⟨_,_,_,⟨by decide,J,J,tabK_9,J⟩,_,_,lc,_,Nat.le_refl _,hb',hsame (by decide),HF.pick (k:=10) (k2:=10) [0,1,4,5,6] [2,3,7,8,9] [0,1,5,6,2,3,4,7,8,9] (Kb hk hb (by simp [dpS] at hd;omega)) rfl (by decide) rfl (by decide) rfl⟩
variable {code:List (Nat × Int)}
theorem Ztg:∀ q,Yq code q<=q
 | 0=>Nat.le_refl _
 | q+1=>by
  have ih:=Ztg q;rcases hx:code[q]? with _ | y
  ·have:Yq code (q+1)=Yq code q:=by unfold Yq;rw [List.take_add_one,hx];simp
   omega
  ·rw [U0 hx];unfold dpS;split
   ·omega
   ·split<;>omega
theorem Plain.hq (h:Plain code) (hx:code[p]?=some (op,n)):∀ j,j<3->p=2*j+1->(op,n)=(3,.ofNat j):=fun j hj e=>by
 subst e;rw [h.ini j hj] at hx;exact (Option.some.inj hx).symm
theorem Zkp (hpl:Plain code) (hkb:code.length<=1000) (hd:(Yq code (p+1):Int)<=x.dp) (hx:code[p]?=some (op,n)) (hk:Yq code p<=k) (hb:k<=1000) (hl:Mf lc p) :
  ∃ t1 t2 e,TbRow x.T op t1 t2 e/\∃ s' k' lc' N',(e=true->p+1=code.length)/\(e=false->p+1<code.length/\Yq code (p+1)<=k'/\k'<=1000/\Mf lc' (p+1)) /\
   HF Tryz.prog 162 [.ptr x.w 0,.agg [t1,t2,Zb false,Zb e],.agg (Kp op n qa qb)] N (x.H at_ true s k (Yq code p) lc) fun u n' h=>u=.tup []/\n'=N'/\h=x.H at_ (!e) s' k' (Yq code (p+1)) lc':=by
 have hpl':p<code.length:=(List.getElem?_eq_some_iff.1 hx).1;have hle:=Ztg (code:=code) (p+1);rw [U0 hx] at hd hle ⊢;obtain ⟨t1,t2,e,ht,s',k',lc',N',h1,h2,h3,h4⟩:=do_good (x:=x) (N:=N) (s:=s) (at_:=at_) (qa:=qa) (qb:=qb) (hpl.ok p _ hx) hk hb hd (by omega) hl (hpl.hq hx);refine ⟨t1,t2,e,ht,s',k',lc',N',fun he=>?_,fun he=>⟨?_,h1,h2,h3⟩,h4⟩
 ·have:=ht.en;rw [he] at this;have h22:op=22:=by simpa using this.symm
  subst h22;exact hpl.ret p n hx
 ·obtain ⟨q,hq,hl⟩:=hpl.last;rcases Nat.lt_or_ge (p+1) code.length with h | h
  ·exact h
  ·have:p=q:=by omega
   subst this;rw [hx] at hl;cases hl;have:=ht.en;rw [he] at this;simp at this
theorem Plain.one (h:Plain code) (hx:code[0]?=some (op,n)):(op=1\/op=28)/\1<code.length/\Yq code 1=1:=by
 have h1:=h.ini 0 (by omega);have ho:=h.ok 1 _ h1;have hd:Yq code 1=dpS 0 (op,n):=U0 hx;have h0:OkAt 0 0 (op,n):=h.ok 0 _ hx;have hlt:1<code.length:=(List.getElem?_eq_some_iff.1 h1).1;have hn:1<=Yq code 1:=by cases ho;assumption
 rw [hd] at hn ⊢;cases h0<;>first | omega | exact ⟨by simp,hlt,rfl⟩ | (simp [dpS] at hn)
theorem Zex (hpl:Plain code) (hd:(1:Int)<=x.dp) (hx:code[0]?=some (op,n)) (hl:Mf lc 0) :
  ∃ t1 t2,TbRow x.T op t1 t2 false/\∃ s' N',1<code.length/\Mf lc 1 /\
   HF Tryz.prog 162 [.ptr x.w 0,.agg [t1,t2,Zb false,Zb false],.agg (Kp op n qa qb)] N (x.H0 at_ lc) fun u n' h=>u=.tup []/\n'=N'/\h=x.H at_ true s' 1 (Yq code 1) lc:=by
 obtain ⟨ho,hlt,hd1⟩:=hpl.one hx;rw [hd1];have hl1:Mf lc 1:=⟨hl.1,fun j _ hp=>by omega⟩;rcases ho with rfl | rfl
 ·exact ⟨_,_,⟨by decide,J,J,Zal,J⟩,_,_,hlt,hl1,HF.pick (k:=9) (k2:=10) [0,2] [1,3,4,5,6,7,8] [0,1,3,2,4,5,6,7,8,9] (Zkx (by omega)) J (by decide) J (by decide) J⟩
 ·exact ⟨_,_,⟨by decide,J,J,Fw,J⟩,_,_,hlt,hl1,HF.pick (k:=9) (k2:=10) [0,8] [1,2,3,4,5,6,7] [0,1,3,4,5,6,7,8,9,2] (Zkx (by omega)) J (by decide) J (by decide) J⟩
theorem go_deep (hpl:Plain code) (hd:(Yq code p:Int)<=x.dp) (hd':¬ (Yq code (p+1):Int)<=x.dp) (hx:code[p]?=some (op,n)) (hl:Mf lc p) :
  ∃ t1 t2 e,TbRow x.T op t1 t2 e /\
   HP Tryz.prog 162 [.ptr x.w 0,.agg [t1,t2,Zb false,Zb e],.agg (Kp op n qa qb)] N (x.H at_ true s k (Yq code p) lc) (.iface 143 (.agg #[.int .i64 x.nu,.int .i64 at_])):=by
 have ho:=hpl.ok p _ hx;rw [U0 hx] at hd';generalize Yq code p=ln at ho hd hd' ⊢;cases ho with
 | push=>exact ⟨_,_,_,⟨by decide,rfl,rfl,Zal,rfl⟩,HP.more [0,3] (Av (by simp [dpS] at hd';omega)) (by decide)⟩
 | read=>exact ⟨_,_,_,⟨by decide,rfl,rfl,Fw,rfl⟩,HP.more [0,9] (Av (by simp [dpS] at hd';omega)) (by decide)⟩
 | load hj hp=>exact ⟨_,_,_,⟨by decide,rfl,rfl,Zpd,rfl⟩,HP.more [0,2] (Zfp hj (hl.2 _ hj (by omega)) (by simp [dpS] at hd';omega)) (by decide)⟩
 | back=>simp [dpS] at hd';omega
 | store hj hn | pop hn | print hn | add hn | sub hn | mul hn | div hn=>simp [dpS] at hd';omega
theorem Zso (hpl:Plain code) (hd':¬ (1:Int)<=x.dp) (hx:code[0]?=some (op,n)) :
  ∃ t1 t2 e,TbRow x.T op t1 t2 e /\
   HP Tryz.prog 162 [.ptr x.w 0,.agg [t1,t2,Zb false,Zb e],.agg (Kp op n qa qb)] N (x.H0 at_ lc) (.iface 143 (.agg #[.int .i64 x.nu,.int .i64 at_])):=by
 obtain ⟨ho,hlt,hd1⟩:=hpl.one hx;rcases ho with rfl | rfl
 ·exact ⟨_,_,_,⟨by decide,J,J,Zal,J⟩,HP.more [0,2] (Cd (by omega)) (by decide)⟩
 ·exact ⟨_,_,_,⟨by decide,J,J,Fw,J⟩,HP.more [0,8] (Cd (by omega)) (by decide)⟩
end
end S
namespace S
open Go Go.RowKit E
inductive GoS (code:List (Nat × Int)):Type
 | first (lc:List SV) (N:Nat) (hl:Mf lc 0)
 | row (p s k:Nat) (lc:List SV) (N:Nat) (at_:Int) (hp:p<code.length) (hk:Yq code p<=k) (hb:k<=1000) (hl:Mf lc p)
 | fin (s k ln:Nat) (lc:List SV) (N:Nat) (at_:Int)
section
variable {code:List (Nat × Int)}
def GoS.p:GoS code->Nat
 | .first _ _ _=>0
 | .row p _ _ _ _ _ _ _ _ _=>p
 | .fin _ _ _ _ _ _=>code.length
def GoS.nn:GoS code->Nat
 | .first _ N _=>N
 | .row _ _ _ _ N _ _ _ _ _=>N
 | .fin _ _ _ _ N _=>N
def GoS.mu (c:GoS code):Nat:=code.length+1 - c.p
noncomputable def GoS.hh (x:Wc) (R:Ch):GoS code->Ch
 | .first lc _ _=>[(x.w,x.W 0 (.v (.slice none 0 0)) true),(x.T+94,.row 264 4 33 (tabK x.T))]++bxs x.T++R++[(x.lp,.row 71 2 3 lc)]
 | .row p s k lc _ at_ _ _ _ _=>[(x.w,x.W at_ (.sl s 0 (Yq code p) 0) true),(x.T+94,.row 264 4 33 (tabK x.T))]++bxs x.T++R++[(x.lp,.row 71 2 3 lc),(s,.row 71 2 k (sC k))]
 | .fin s k ln lc _ at_=>[(x.w,x.W at_ (.sl s 0 ln 0) false),(x.T+94,.row 264 4 33 (tabK x.T))]++bxs x.T++R++[(x.lp,.row 71 2 3 lc),(s,.row 71 2 k (sC k))]
theorem Hw {p:Nat} {i7:List (List SV)} (h7:∀ y ∈ i7,Is7 y) (hc:∀ (p op:Nat) (n:Int),code[p]?=some (op,n)->∃ a b,i7[p]?=some (Kp op n a b)) (hp:p<code.length):∃ op n qa qb,code[p]?=some (op,n)/\cutAt i7.flatten (0+p*7) 7=Kp op n qa qb:=by
 have hx:=List.getElem?_eq_getElem hp;generalize code[p]=y at hx;obtain ⟨op,n⟩:=y;obtain ⟨a,b,h⟩:=hc p op n hx;exact ⟨op,n,a,b,hx,cut7 h7 p _ h⟩
end
inductive GoP (code:List (Nat × Int)) (p0:Nat):Type
 | first (lc:List SV) (N:Nat) (hl:Mf lc 0) (h0:0<p0)
 | row (p s k:Nat) (lc:List SV) (N:Nat) (at_:Int) (hp:p<p0) (hk:Yq code p<=k) (hb:k<=1000) (hl:Mf lc p)
 | firstD (lc:List SV) (N:Nat) (hl:Mf lc 0) (h0:p0=0)
 | rowD (s k:Nat) (lc:List SV) (N:Nat) (at_:Int) (hl:Mf lc p0)
section
variable {code:List (Nat × Int)} {p0:Nat}
def GoP.p:GoP code p0->Nat
 | .first _ _ _ _=>0
 | .row p _ _ _ _ _ _ _ _ _=>p
 | .firstD _ _ _ _=>0
 | .rowD _ _ _ _ _ _=>p0
def GoP.nn:GoP code p0->Nat
 | .first _ N _ _=>N
 | .row _ _ _ _ N _ _ _ _ _=>N
 | .firstD _ N _ _=>N
 | .rowD _ _ _ N _ _=>N
def GoP.m:GoP code p0->Nat
 | .first _ _ _ _=>p0+1
 | .row p _ _ _ _ _ _ _ _ _=>p0+1 - p
 | .firstD _ _ _ _=>0
 | .rowD _ _ _ _ _ _=>0
def GoP.mu (c:GoP code p0):Nat:=c.m
noncomputable def GoP.hh (x:Wc) (R:Ch):GoP code p0->Ch
 | .first lc _ _ _=>[(x.w,x.W 0 (.v (.slice none 0 0)) true),(x.T+94,.row 264 4 33 (tabK x.T))]++bxs x.T++R++[(x.lp,.row 71 2 3 lc)]
 | .row p s k lc _ at_ _ _ _ _=>[(x.w,x.W at_ (.sl s 0 (Yq code p) 0) true),(x.T+94,.row 264 4 33 (tabK x.T))]++bxs x.T++R++[(x.lp,.row 71 2 3 lc),(s,.row 71 2 k (sC k))]
 | .firstD lc _ _ _=>[(x.w,x.W 0 (.v (.slice none 0 0)) true),(x.T+94,.row 264 4 33 (tabK x.T))]++bxs x.T++R++[(x.lp,.row 71 2 3 lc)]
 | .rowD s k lc _ at_ _=>[(x.w,x.W at_ (.sl s 0 (Yq code p0) 0) true),(x.T+94,.row 264 4 33 (tabK x.T))]++bxs x.T++R++[(x.lp,.row 71 2 3 lc),(s,.row 71 2 k (sC k))]
def goP0 (lc:List SV) (N:Nat) (hl:Mf lc 0):GoP code p0:=if h:p0=0 then .firstD lc N hl h else .first lc N hl (by omega)
theorem goP0_p (lc:List SV) (N:Nat) (hl:Mf lc 0):(goP0 (code:=code) (p0:=p0) lc N hl).p=0:=by unfold goP0;split<;>rfl
theorem goP0_nn (lc:List SV) (N:Nat) (hl:Mf lc 0):(goP0 (code:=code) (p0:=p0) lc N hl).nn=N:=by unfold goP0;split<;>rfl
theorem goP0_hh (x:Wc) (R:Ch) (lc:List SV) (N:Nat) (hl:Mf lc 0):(goP0 (code:=code) (p0:=p0) lc N hl).hh x R=[(x.w,x.W 0 (Zz) true),(x.T+94,.row 264 4 33 (tabK x.T))]++bxs x.T++R++[(x.lp,.row 71 2 3 lc)]:=by unfold goP0;split<;>rfl
end
section
set_option maxRecDepth 10000
variable {N w T k dc:Nat} {code:List (Nat × Int)} {i7:List (List SV)} {zp hp gp:Option Addr} {zq hq gq:Nat} {c0 c1 c2 c3 gr m0 m4:SV} {nu dp:Int}
theorem Zbt (hlen:code.length=k) (hkb:k<=1000) (h7:∀ y ∈ i7,Is7 y) (hc:∀ (p op:Nat) (n:Int),code[p]?=some (op,n)->∃ a b,i7[p]?=some (Kp op n a b)) (hpl:Plain code) (hd:∀ q,q<=k->(Yq code q:Int)<=dp) :
  HF Tryz.prog 105 [.ptr w 0,.sl (T+94) 0 33 0] N ([(w,.cells [c0,c1,c2,c3,gr,Zi nu,m0,Zb true,Zl zp zq,Zi 0,m4,Zi 3,Zi dp,.sl dc 0 k 0,Zl hp hq,Zl gp gq,Zi 0,Zz,Zz,Zb false]),(T+94,.row 264 4 33 (tabK T))]++bxs T++[(dc,.row 75 7 k i7.flatten)]) fun u _ H'=>u=.tup []/\H'=[(dc,.row 75 7 k i7.flatten)]:=by
 refine hf1 Tryz.func105 J Tryz.ntmps105 fun _ _ _ _=>?_;refine Zu (Zg 3 [] [(6,Zq w 0),(7,Zq w 0),(8,Zq w 0)] [] (Yl [0] [0] Z6 J J J J (Ao) J (Z9 6 [1,1] [] [] (N+8) [] [(1,Zc [c0,c1,c2,c3,gr,Zi nu,m0,Zb true,Zl zp zq,Zi 0,m4,Zi 3,Zi dp,Zk dc 0 k 0,Zl hp hq,Zl gp gq,Zi 0,Zk (N+7) 0 3 0,Zz,Zb true])] (Yi (Zu (Zg 7 [1] [(18,Zk dc 0 k 0),(19,Zn k),(20,Zi 0)] [] (Zv (Ye (Zvh (α:=GoS code) (st:=(fun s=>[(0,.ptr w 0),(1,.sl (T+94) 0 33 0),(18,.sl dc 0 k 0),(19,Zn k),(20,Zn s.p)])) (nn:=GoS.nn) (hh:=(GoS.hh (⟨w,N+7,T,c0,c1,c2,c3,gr,m0,Zb true,Zl zp zq,m4,Zi 3,.sl dc 0 k 0,Zl hp hq,Zl gp gq,nu,dp⟩:Wc) [(dc,.row 75 7 k i7.flatten)])) (.first [Zi 4,Ze,Zi 4,Ze,Zi 4,Ze] (N+8) ⟨J,fun j _ hj=>by omega⟩) [1,2,3,4,5,6,7,8,9,10,0] ⟨J,J,J,J,J,trivial⟩ J (by decide) J ?_)))))))));refine Iz (α:=GoS code) GoS.mu (fun s=>[(0,.ptr w 0),(1,.sl (T+94) 0 33 0),(18,.sl dc 0 k 0),(19,Zn k),(20,Zn s.p)]) GoS.nn (GoS.hh (⟨w,N+7,T,c0,c1,c2,c3,gr,m0,Zb true,Zl zp zq,m4,Zi 3,.sl dc 0 k 0,Zl hp hq,Zl gp gq,nu,dp⟩:Wc) [(dc,.row 75 7 k i7.flatten)]) (.first [Zi 4,Ze,Zi 4,Ze,Zi 4,Ze] (N+8) ⟨J,fun j _ hj=>by omega⟩) ?_;rintro (⟨lc,N2,hl⟩ | ⟨p,s,k2,lc,N2,at_,hp2,hk2,hb2,hl⟩ | ⟨s,k2,ln,lc,N2,at_⟩)
 ·skip
  have hp0:0<code.length:=by have:=(List.getElem?_eq_some_iff.1 (hpl.ini 0 (by omega))).1;omega
  obtain ⟨op,n,qa,qb,hx,hcut⟩:=Hw h7 hc hp0;obtain ⟨t1,t2,ht,s1,N1,hlt,hl1,hst⟩:=Zex (x:=(⟨w,N+7,T,c0,c1,c2,c3,gr,m0,.v (.bool true),.v (.slice zp 0 zq),m4,.v (.int .i64 3),.sl dc 0 k 0,.v (.slice hp 0 hq),.v (.slice gp 0 gq),nu,dp⟩:Wc)) (N:=N2+3) (at_:=.ofNat 0) (qa:=qa) (qb:=qb) hpl (by have:=hd 1 (by omega);rw [(hpl.one hx).2.2] at this;exact this) hx hl;have hopb:=ht.lt;have hrow:=ht.row;refine Zu (Zg 1 [] [(21,SV.v (.bool (ilt (.ofNat 0) (.ofNat k))))] [] (Yi ?_));refine Ti J (by rw [Wb];simp only [Int.ofNat_eq_natCast];omega) ?_;refine Yp (Z2 (Yb (Ye (Zu (Zg 1 [] [(22,Zn 0)] [] (Ya (v:=.ptr dc (0+0*7)) J (W0 J J J (by kernel_rfl) (by omega)) J ?_))))));refine Vx (i:=9) (v:=.agg [Zn op,Zi n,Ze,Ze,Zl qa qb,Zi 0,Ze]) J J J J (by have:=Ut (P:=Tryz.prog) (t:=75) (m:=7) (off:=0+0*7) (sb:=.row 75 7 k i7.flatten) (c:=i7.flatten) (by kernel_rfl) (by kernel_rfl) J (by rw [hcut];rfl);rw [hcut] at this;exact this) J ?_;refine Z9 3 [0] [(5,Zq N2 0),(4,Zn 0)] [] (N2+1) [(N2,Zc [Zn op,Zi n,Ze,Ze,Zl qa qb,Zi 0,Ze])] [] ?_;refine Yh (Z9 5 [1] [] [] (N2+1) [] [(1,Zc [c0,c1,c2,c3,gr,Zi nu,m0,Zb true,Zl zp zq,Zi 0,m4,Zi 3,Zi dp,Zk dc 0 k 0,Zl hp hq,Zl gp gq,Zn 0,Zk (N+7) 0 3 0,Zz,Zb true])] (Yh (Zg 1 [] [(29,Zq w 0)] [] (Yl [1] [1] Z6 J J J J (U6) J (Yh (Zg 1 [] [(31,Zq w 0)] [] (Yl [0] [0] Z6 J J J J (V2) J (Zv ?_))))))))
  refine W3 [.ptr w 0,.sl (T+94) 0 33 0,.ptr N2 0,Zn op,.ptr (T+94) (0+op*4),.agg [t1,t2,Zb false,Zb false],.agg [Zn op,Zi n,Ze,Ze,Zl qa qb,Zi 0,Ze],.tup []] [7] [(_,_)] [1,1] [] [] [4,5] Xy
   ⟨fun _ _ _ _ _ _ _ kG=>Yl [0,11,3,4,5,6,7,8,9] [11,9,8,7,6,5,4,3,0] Z6 rfl rfl rfl rfl (hst) rfl kG,trivial⟩
   ⟨X6 fun _ _=>Y4 rfl (W0 rfl rfl rfl (by kernel_rfl) (by omega)),(Ws (fun _ hGG=>Yg rfl rfl rfl (hGG.get (i:=2) rfl) (by have:=Ut (P:=Tryz.prog) (t:=264) (m:=4) (off:=0+op*4) (sb:=.row 264 4 33 (tabK T)) (c:=tabK T) (by kernel_rfl) (by kernel_rfl) rfl (by rw [hrow];rfl);rw [hrow] at this;exact this)) (S8 (by kernel_rfl) trivial)),trivial⟩ J ?_
  refine Y1 (Z2 (Z0 (Zg 2 [] [(20,Zi 1)] [] (Yn ?_))));exact Qq (.row 1 s1 1 lc N1 0 hlt (Nat.le_of_eq (hpl.one hx).2.2) (by omega) hl1) [0,11,3,4,5,6,7,8,9,12,2,1] (by unfold GoS.mu;show _+1 - 1<_+1 - 0;omega) ⟨rfl,rfl,rfl,rfl,rfl,trivial⟩ rfl (by decide) (by kernel_rfl)
 ·skip
  obtain ⟨op,n,qa,qb,hx,hcut⟩:=Hw h7 hc hp2;obtain ⟨t1,t2,e,ht,s1,k1,lc1,N1,he1,he2,hst⟩:=Zkp (x:=(⟨w,N+7,T,c0,c1,c2,c3,gr,m0,.v (.bool true),.v (.slice zp 0 zq),m4,.v (.int .i64 3),.sl dc 0 k 0,.v (.slice hp 0 hq),.v (.slice gp 0 gq),nu,dp⟩:Wc)) (N:=N2+3) (s:=s) (at_:=.ofNat p) (qa:=qa) (qb:=qb) hpl (by omega) (hd (p+1) (by omega)) hx hk2 hb2 hl;have hopb:=ht.lt;have hrow:=ht.row;refine Zu (Zg 1 [] [(21,SV.v (.bool (ilt (.ofNat p) (.ofNat k))))] [] (Yi ?_));refine Ti J (by rw [Wb];simp only [Int.ofNat_eq_natCast];omega) ?_;refine Yp (Z2 (Yb (Ye (Zu (Zg 1 [] [(22,Zn p)] [] (Ya (v:=.ptr dc (0+p*7)) J (W0 J J J (by kernel_rfl) (by omega)) J ?_))))));refine Vx (i:=9) (v:=.agg [Zn op,Zi n,Ze,Ze,Zl qa qb,Zi 0,Ze]) J J J J (by have:=Ut (P:=Tryz.prog) (t:=75) (m:=7) (off:=0+p*7) (sb:=.row 75 7 k i7.flatten) (c:=i7.flatten) (by kernel_rfl) (by kernel_rfl) J (by rw [hcut];rfl);rw [hcut] at this;exact this) J ?_;refine Z9 3 [0] [(5,Zq N2 0),(4,Zn p)] [] (N2+1) [(N2,Zc [Zn op,Zi n,Ze,Ze,Zl qa qb,Zi 0,Ze])] [] ?_;refine Yh (Z9 5 [1] [] [] (N2+1) [] [(1,Zc [c0,c1,c2,c3,gr,Zi nu,m0,Zb true,Zl zp zq,Zi 0,m4,Zi 3,Zi dp,Zk dc 0 k 0,Zl hp hq,Zl gp gq,Zn p,Zk (N+7) 0 3 0,Zk s 0 (Yq code p) 0,Zb true])] (Yh (Zg 1 [] [(29,Zq w 0)] [] (Yl [1] [1] Z6 J J J J (U6) J (Yh (Zg 1 [] [(31,Zq w 0)] [] (Yl [0] [0] Z6 J J J J (V2) J (Zv ?_))))))))
  refine W3 [.ptr w 0,.sl (T+94) 0 33 0,.ptr N2 0,Zn op,.ptr (T+94) (0+op*4),.agg [t1,t2,Zb false,Zb e],.agg [Zn op,Zi n,Ze,Ze,Zl qa qb,Zi 0,Ze],.tup []] [7] [(_,_)] [1,1] [] [] [4,5] Xy
   ⟨fun _ _ _ _ _ _ _ kG=>Yl [0,12,11,3,4,5,6,7,8,9] [12,11,9,8,7,6,5,4,3,0] Z6 rfl rfl rfl rfl (hst) rfl kG,trivial⟩
   ⟨X6 fun _ _=>Y4 rfl (W0 rfl rfl rfl (by kernel_rfl) (by omega)),(Ws (fun _ hGG=>Yg rfl rfl rfl (hGG.get (i:=2) rfl) (by have:=Ut (P:=Tryz.prog) (t:=264) (m:=4) (off:=0+op*4) (sb:=.row 264 4 33 (tabK T)) (c:=tabK T) (by kernel_rfl) (by kernel_rfl) rfl (by rw [hrow];rfl);rw [hrow] at this;exact this)) (S8 (by kernel_rfl) trivial)),trivial⟩ J ?_
  refine Y1 (Z2 (Z0 (Ya (v:=Zn (p+1)) J (X7 J J J (by omega)) J ?_)));refine Zg 1 [] [(20,Zn (p+1))] [] (Yn ?_);have hmu:∀ q,q=p+1->code.length+1 - q<code.length+1 - p:=fun q hq=>by omega
  cases e
  ·obtain ⟨e1,e2,e3,e4⟩:=he2 rfl;exact Qq (.row (p+1) s1 k1 lc1 N1 (.ofNat p) e1 e2 e3 e4) [0,11,3,4,5,6,7,8,9,12,2,1] (hmu _ J) ⟨J,J,J,J,J,trivial⟩ J (by decide) (by kernel_rfl)
  ·exact Qq (.fin s1 k1 (Yq code (p+1)) lc1 N1 (.ofNat p)) [0,11,3,4,5,6,7,8,9,12,2,1] (hmu _ (he1 J).symm) ⟨J,J,J,J,congrArg (fun q:Nat=>some (Zn q)) (he1 J),trivial⟩ J (by decide) (by kernel_rfl)
 ·skip
  refine Zu (Zg 1 [] [(21,SV.v (.bool (ilt (.ofNat (code.length)) (.ofNat k))))] [] (Yi ?_));refine Tx J (by rw [Bool.eq_false_iff,ne_eq,Wb];simp only [Int.ofNat_eq_natCast];omega) ?_;refine Uo (Y0 (Y0 (Wj (Z2 (Z0 (Zg 6 [0] [(42,Zq w 0),(47,Zb true)] [] (Yl [] [] Z6 J J J J (Rl) J (Yn (Yo [9] (.inl J) Z6 J (by decide) ?_)))))))));exact ⟨J,J⟩
theorem Zbu {p0:Nat} (hlen:code.length=k) (hkb:k<=1000) (h7:∀ y ∈ i7,Is7 y) (hc:∀ (p op:Nat) (n:Int),code[p]?=some (op,n)->∃ a b,i7[p]?=some (Kp op n a b)) (hpl:Plain code) (hp0:p0<k) (hd:∀ q,q<=p0->(Yq code q:Int)<=dp) (hd':¬ (Yq code (p0+1):Int)<=dp) :
  HP Tryz.prog 105 [.ptr w 0,.sl (T+94) 0 33 0] N ([(w,.cells [c0,c1,c2,c3,gr,Zi nu,m0,Zb true,Zl zp zq,Zi 0,m4,Zi 3,Zi dp,.sl dc 0 k 0,Zl hp hq,Zl gp gq,Zi 0,Zz,Zz,Zb false]),(T+94,.row 264 4 33 (tabK T))]++bxs T++[(dc,.row 75 7 k i7.flatten)]) (.iface 143 (.agg #[.int .i64 nu,.int .i64 (.ofNat p0)])):=by
 refine hp1 Tryz.func105 J Tryz.ntmps105 fun _ _ _ _=>?_;refine Zu (Zg 3 [] [(6,Zq w 0),(7,Zq w 0),(8,Zq w 0)] [] (Yl [0] [0] Z6 J J J J (Ao) J (Z9 6 [1,1] [] [] (N+8) [] [(1,Zc [c0,c1,c2,c3,gr,Zi nu,m0,Zb true,Zl zp zq,Zi 0,m4,Zi 3,Zi dp,Zk dc 0 k 0,Zl hp hq,Zl gp gq,Zi 0,Zk (N+7) 0 3 0,Zz,Zb true])] (Yi (Zu (Zg 7 [1] [(18,Zk dc 0 k 0),(19,Zn k),(20,Zi 0)] [] (Zv (Ye (Zvh (α:=GoP code p0) (st:=(fun s=>[(0,.ptr w 0),(1,.sl (T+94) 0 33 0),(18,.sl dc 0 k 0),(19,Zn k),(20,Zn s.p)])) (nn:=GoP.nn) (hh:=(GoP.hh (⟨w,N+7,T,c0,c1,c2,c3,gr,m0,Zb true,Zl zp zq,m4,Zi 3,.sl dc 0 k 0,Zl hp hq,Zl gp gq,nu,dp⟩:Wc) [(dc,.row 75 7 k i7.flatten)])) (goP0 [Zi 4,Ze,Zi 4,Ze,Zi 4,Ze] (N+8) ⟨J,fun j _ hj=>by omega⟩) [1,2,3,4,5,6,7,8,9,10,0] ⟨J,J,J,J,congrArg (fun q:Nat=>some (Zn q)) (goP0_p _ _ _).symm,trivial⟩ (goP0_nn _ _ _) (by decide) (goP0_hh _ _ _ _ _) ?_)))))))));refine Iz (α:=GoP code p0) GoP.mu (fun s=>[(0,.ptr w 0),(1,.sl (T+94) 0 33 0),(18,.sl dc 0 k 0),(19,Zn k),(20,Zn s.p)]) GoP.nn (GoP.hh (⟨w,N+7,T,c0,c1,c2,c3,gr,m0,Zb true,Zl zp zq,m4,Zi 3,.sl dc 0 k 0,Zl hp hq,Zl gp gq,nu,dp⟩:Wc) [(dc,.row 75 7 k i7.flatten)]) (goP0 [Zi 4,Ze,Zi 4,Ze,Zi 4,Ze] (N+8) ⟨J,fun j _ hj=>by omega⟩) ?_;rintro (⟨lc,N2,hl,h0⟩ | ⟨p,s,k2,lc,N2,at_,hp2,hk2,hb2,hl⟩ | ⟨lc,N2,hl,h0⟩ | ⟨s,k2,lc,N2,at_,hl⟩)
 ·skip
  obtain ⟨op,n,qa,qb,hx,hcut⟩:=Hw h7 hc (show 0<code.length by omega);obtain ⟨t1,t2,ht,s1,N1,hlt,hl1,hst⟩:=Zex (x:=(⟨w,N+7,T,c0,c1,c2,c3,gr,m0,.v (.bool true),.v (.slice zp 0 zq),m4,.v (.int .i64 3),.sl dc 0 k 0,.v (.slice hp 0 hq),.v (.slice gp 0 gq),nu,dp⟩:Wc)) (N:=N2+3) (at_:=.ofNat 0) (qa:=qa) (qb:=qb) hpl (by have:=hd 1 (by omega);rw [(hpl.one hx).2.2] at this;exact this) hx hl;have hopb:=ht.lt;have hrow:=ht.row;refine Zu (Zg 1 [] [(21,SV.v (.bool (ilt (.ofNat 0) (.ofNat k))))] [] (Yi ?_));refine Ti J (by rw [Wb];simp only [Int.ofNat_eq_natCast];omega) ?_;refine Yp (Z2 (Yb (Ye (Zu (Zg 1 [] [(22,Zn 0)] [] (Ya (v:=.ptr dc (0+0*7)) J (W0 J J J (by kernel_rfl) (by omega)) J ?_))))));refine Vx (i:=9) (v:=.agg [Zn op,Zi n,Ze,Ze,Zl qa qb,Zi 0,Ze]) J J J J (by have:=Ut (P:=Tryz.prog) (t:=75) (m:=7) (off:=0+0*7) (sb:=.row 75 7 k i7.flatten) (c:=i7.flatten) (by kernel_rfl) (by kernel_rfl) J (by rw [hcut];rfl);rw [hcut] at this;exact this) J ?_;refine Z9 3 [0] [(5,Zq N2 0),(4,Zn 0)] [] (N2+1) [(N2,Zc [Zn op,Zi n,Ze,Ze,Zl qa qb,Zi 0,Ze])] [] ?_;refine Yh (Z9 5 [1] [] [] (N2+1) [] [(1,Zc [c0,c1,c2,c3,gr,Zi nu,m0,Zb true,Zl zp zq,Zi 0,m4,Zi 3,Zi dp,Zk dc 0 k 0,Zl hp hq,Zl gp gq,Zn 0,Zk (N+7) 0 3 0,Zz,Zb true])] (Yh (Zg 1 [] [(29,Zq w 0)] [] (Yl [1] [1] Z6 J J J J (U6) J (Yh (Zg 1 [] [(31,Zq w 0)] [] (Yl [0] [0] Z6 J J J J (V2) J (Zv ?_))))))))
  refine W3 [.ptr w 0,.sl (T+94) 0 33 0,.ptr N2 0,Zn op,.ptr (T+94) (0+op*4),.agg [t1,t2,Zb false,Zb false],.agg [Zn op,Zi n,Ze,Ze,Zl qa qb,Zi 0,Ze],.tup []] [7] [(_,_)] [1,1] [] [] [4,5] Xy
   ⟨fun _ _ _ _ _ _ _ kG=>Yl [0,11,3,4,5,6,7,8,9] [11,9,8,7,6,5,4,3,0] Z6 rfl rfl rfl rfl (hst) rfl kG,trivial⟩
   ⟨X6 fun _ _=>Y4 rfl (W0 rfl rfl rfl (by kernel_rfl) (by omega)),(Ws (fun _ hGG=>Yg rfl rfl rfl (hGG.get (i:=2) rfl) (by have:=Ut (P:=Tryz.prog) (t:=264) (m:=4) (off:=0+op*4) (sb:=.row 264 4 33 (tabK T)) (c:=tabK T) (by kernel_rfl) (by kernel_rfl) rfl (by rw [hrow];rfl);rw [hrow] at this;exact this)) (S8 (by kernel_rfl) trivial)),trivial⟩ J ?_
  refine Y1 (Z2 (Z0 (Zg 2 [] [(20,Zi 1)] [] (Yn ?_))));by_cases hq:p0=1
  ·subst hq;exact Qq (.rowD s1 1 lc N1 0 hl1) [0,11,3,4,5,6,7,8,9,12,2,1] (by unfold GoP.mu GoP.m;simp only [];omega) ⟨rfl,rfl,rfl,rfl,rfl,trivial⟩ rfl (by decide) (by kernel_rfl)
  ·exact Qq (.row 1 s1 1 lc N1 0 (by omega) (Nat.le_of_eq (hpl.one hx).2.2) (by omega) hl1) [0,11,3,4,5,6,7,8,9,12,2,1] (by unfold GoP.mu GoP.m;simp only [];omega) ⟨rfl,rfl,rfl,rfl,rfl,trivial⟩ rfl (by decide) (by kernel_rfl)
 ·skip
  obtain ⟨op,n,qa,qb,hx,hcut⟩:=Hw h7 hc (show p<code.length by omega);obtain ⟨t1,t2,e,ht,s1,k1,lc1,N1,he1,he2,hst⟩:=Zkp (x:=(⟨w,N+7,T,c0,c1,c2,c3,gr,m0,.v (.bool true),.v (.slice zp 0 zq),m4,.v (.int .i64 3),.sl dc 0 k 0,.v (.slice hp 0 hq),.v (.slice gp 0 gq),nu,dp⟩:Wc)) (N:=N2+3) (s:=s) (at_:=.ofNat p) (qa:=qa) (qb:=qb) hpl (by omega) (hd (p+1) (by omega)) hx hk2 hb2 hl;have hopb:=ht.lt;have hrow:=ht.row;refine Zu (Zg 1 [] [(21,SV.v (.bool (ilt (.ofNat p) (.ofNat k))))] [] (Yi ?_));refine Ti J (by rw [Wb];simp only [Int.ofNat_eq_natCast];omega) ?_;refine Yp (Z2 (Yb (Ye (Zu (Zg 1 [] [(22,Zn p)] [] (Ya (v:=.ptr dc (0+p*7)) J (W0 J J J (by kernel_rfl) (by omega)) J ?_))))));refine Vx (i:=9) (v:=.agg [Zn op,Zi n,Ze,Ze,Zl qa qb,Zi 0,Ze]) J J J J (by have:=Ut (P:=Tryz.prog) (t:=75) (m:=7) (off:=0+p*7) (sb:=.row 75 7 k i7.flatten) (c:=i7.flatten) (by kernel_rfl) (by kernel_rfl) J (by rw [hcut];rfl);rw [hcut] at this;exact this) J ?_;refine Z9 3 [0] [(5,Zq N2 0),(4,Zn p)] [] (N2+1) [(N2,Zc [Zn op,Zi n,Ze,Ze,Zl qa qb,Zi 0,Ze])] [] ?_;refine Yh (Z9 5 [1] [] [] (N2+1) [] [(1,Zc [c0,c1,c2,c3,gr,Zi nu,m0,Zb true,Zl zp zq,Zi 0,m4,Zi 3,Zi dp,Zk dc 0 k 0,Zl hp hq,Zl gp gq,Zn p,Zk (N+7) 0 3 0,Zk s 0 (Yq code p) 0,Zb true])] (Yh (Zg 1 [] [(29,Zq w 0)] [] (Yl [1] [1] Z6 J J J J (U6) J (Yh (Zg 1 [] [(31,Zq w 0)] [] (Yl [0] [0] Z6 J J J J (V2) J (Zv ?_))))))))
  refine W3 [.ptr w 0,.sl (T+94) 0 33 0,.ptr N2 0,Zn op,.ptr (T+94) (0+op*4),.agg [t1,t2,Zb false,Zb e],.agg [Zn op,Zi n,Ze,Ze,Zl qa qb,Zi 0,Ze],.tup []] [7] [(_,_)] [1,1] [] [] [4,5] Xy
   ⟨fun _ _ _ _ _ _ _ kG=>Yl [0,12,11,3,4,5,6,7,8,9] [12,11,9,8,7,6,5,4,3,0] Z6 rfl rfl rfl rfl (hst) rfl kG,trivial⟩
   ⟨X6 fun _ _=>Y4 rfl (W0 rfl rfl rfl (by kernel_rfl) (by omega)),(Ws (fun _ hGG=>Yg rfl rfl rfl (hGG.get (i:=2) rfl) (by have:=Ut (P:=Tryz.prog) (t:=264) (m:=4) (off:=0+op*4) (sb:=.row 264 4 33 (tabK T)) (c:=tabK T) (by kernel_rfl) (by kernel_rfl) rfl (by rw [hrow];rfl);rw [hrow] at this;exact this)) (S8 (by kernel_rfl) trivial)),trivial⟩ J ?_
  refine Y1 (Z2 (Z0 (Ya (v:=Zn (p+1)) J (X7 J J J (by omega)) J ?_)));refine Zg 1 [] [(20,Zn (p+1))] [] (Yn ?_);have he:e=false:=Bool.eq_false_iff.2 fun hc=>by have:=he1 hc;omega
  subst he;obtain ⟨e1,e2,e3,e4⟩:=he2 rfl;by_cases hq:p0=p+1
  ·subst hq;exact Qq (.rowD s1 k1 lc1 N1 (.ofNat p) e4) [0,11,3,4,5,6,7,8,9,12,2,1] (by unfold GoP.mu GoP.m;simp only [];omega) ⟨rfl,rfl,rfl,rfl,rfl,trivial⟩ rfl (by decide) (by kernel_rfl)
  ·exact Qq (.row (p+1) s1 k1 lc1 N1 (.ofNat p) (by omega) e2 e3 e4) [0,11,3,4,5,6,7,8,9,12,2,1] (by unfold GoP.mu GoP.m;simp only [];omega) ⟨rfl,rfl,rfl,rfl,rfl,trivial⟩ rfl (by decide) (by kernel_rfl)
 ·skip
  subst h0;obtain ⟨op,n,qa,qb,hx,hcut⟩:=Hw h7 hc (show 0<code.length by omega);obtain ⟨t1,t2,e,ht,hst⟩:=Zso (x:=(⟨w,N+7,T,c0,c1,c2,c3,gr,m0,.v (.bool true),.v (.slice zp 0 zq),m4,.v (.int .i64 3),.sl dc 0 k 0,.v (.slice hp 0 hq),.v (.slice gp 0 gq),nu,dp⟩:Wc)) (N:=N2+3) (at_:=.ofNat 0) (lc:=lc) (qa:=qa) (qb:=qb) hpl (by have h1:=(hpl.one hx).2.2;intro hc;exact hd' (by rw [Nat.zero_add,h1];exact hc)) hx;have hopb:=ht.lt;have hrow:=ht.row;refine Zu (Zg 1 [] [(21,SV.v (.bool (ilt (.ofNat 0) (.ofNat k))))] [] (Yi ?_));refine Ti J (by rw [Wb];simp only [Int.ofNat_eq_natCast];omega) ?_;refine Yp (Z2 (Yb (Ye (Zu (Zg 1 [] [(22,Zn 0)] [] (Ya (v:=.ptr dc (0+0*7)) J (W0 J J J (by kernel_rfl) (by omega)) J ?_))))));refine Vx (i:=9) (v:=.agg [Zn op,Zi n,Ze,Ze,Zl qa qb,Zi 0,Ze]) J J J J (by have:=Ut (P:=Tryz.prog) (t:=75) (m:=7) (off:=0+0*7) (sb:=.row 75 7 k i7.flatten) (c:=i7.flatten) (by kernel_rfl) (by kernel_rfl) J (by rw [hcut];rfl);rw [hcut] at this;exact this) J ?_;refine Z9 3 [0] [(5,Zq N2 0),(4,Zn 0)] [] (N2+1) [(N2,Zc [Zn op,Zi n,Ze,Ze,Zl qa qb,Zi 0,Ze])] [] ?_;refine Yh (Z9 5 [1] [] [] (N2+1) [] [(1,Zc [c0,c1,c2,c3,gr,Zi nu,m0,Zb true,Zl zp zq,Zi 0,m4,Zi 3,Zi dp,Zk dc 0 k 0,Zl hp hq,Zl gp gq,Zn 0,Zk (N+7) 0 3 0,Zz,Zb true])] (Yh (Zg 1 [] [(29,Zq w 0)] [] (Yl [1] [1] Z6 J J J J (U6) J (Yh (Zg 1 [] [(31,Zq w 0)] [] (Yl [0] [0] Z6 J J J J (V2) J (Zv ?_))))))))
  refine HC_dm 7 [.ptr w 0,.sl (T+94) 0 33 0,.ptr N2 0,Zn op,.ptr (T+94) (0+op*4),.agg [t1,t2,Zb false,Zb e],.agg [Zn op,Zi n,Ze,Ze,Zl qa qb,Zi 0,Ze]] [(33,Zq w 0),(38,SV.agg [t1,t2,Zb false,Zb e]),(39,SV.agg [Zn op,Zi n,Ze,Ze,Zl qa qb,Zi 0,Ze])] Xy J
   ⟨X9 rfl rfl rfl,
    X9 rfl rfl rfl,
    X9 rfl rfl (by kernel_rfl),
    C8 rfl (Ws (fun _ hGG=>Yg rfl rfl rfl (hGG.get (i:=1) rfl) (by kernel_rfl)) trivial),
    X9 rfl rfl (W0 rfl rfl rfl (by kernel_rfl) (by omega)),
    C8 rfl (Ws (fun _ hGG=>Yg rfl rfl rfl (hGG.get (i:=2) rfl) (by have:=Ut (P:=Tryz.prog) (t:=264) (m:=4) (off:=0+op*4) (sb:=.row 264 4 33 (tabK T)) (c:=tabK T) (by kernel_rfl) (by kernel_rfl) rfl (by rw [hrow];rfl);rw [hrow] at this;exact this)) trivial),
    C8 rfl (Ws (fun _ hGG=>Yg rfl rfl rfl (hGG.get (i:=1) rfl) (by kernel_rfl)) trivial),trivial⟩
   (fun _ _ _ _ _ _ _ _ k=>Nk [0,11,3,4,5,6,7,8,9] [11,9,8,7,6,5,4,3,0] Z6 rfl rfl rfl rfl (hst) k) (fun _=>?_) rfl
  refine Gk (Qe (Ziy (Gk (Qe ?_))));exact Sg
 ·skip
  obtain ⟨op,n,qa,qb,hx,hcut⟩:=Hw h7 hc (show p0<code.length by omega);obtain ⟨t1,t2,e,ht,hst⟩:=go_deep (x:=(⟨w,N+7,T,c0,c1,c2,c3,gr,m0,.v (.bool true),.v (.slice zp 0 zq),m4,.v (.int .i64 3),.sl dc 0 k 0,.v (.slice hp 0 hq),.v (.slice gp 0 gq),nu,dp⟩:Wc)) (N:=N2+3) (s:=s) (k:=k2) (at_:=.ofNat p0) (lc:=lc) (qa:=qa) (qb:=qb) hpl (hd p0 (by omega)) hd' hx hl;have hopb:=ht.lt;have hrow:=ht.row;refine Zu (Zg 1 [] [(21,SV.v (.bool (ilt (.ofNat p0) (.ofNat k))))] [] (Yi ?_));refine Ti J (by rw [Wb];simp only [Int.ofNat_eq_natCast];omega) ?_;refine Yp (Z2 (Yb (Ye (Zu (Zg 1 [] [(22,Zn p0)] [] (Ya (v:=.ptr dc (0+p0*7)) J (W0 J J J (by kernel_rfl) (by omega)) J ?_))))));refine Vx (i:=9) (v:=.agg [Zn op,Zi n,Ze,Ze,Zl qa qb,Zi 0,Ze]) J J J J (by have:=Ut (P:=Tryz.prog) (t:=75) (m:=7) (off:=0+p0*7) (sb:=.row 75 7 k i7.flatten) (c:=i7.flatten) (by kernel_rfl) (by kernel_rfl) J (by rw [hcut];rfl);rw [hcut] at this;exact this) J ?_;refine Z9 3 [0] [(5,Zq N2 0),(4,Zn p0)] [] (N2+1) [(N2,Zc [Zn op,Zi n,Ze,Ze,Zl qa qb,Zi 0,Ze])] [] ?_;refine Yh (Z9 5 [1] [] [] (N2+1) [] [(1,Zc [c0,c1,c2,c3,gr,Zi nu,m0,Zb true,Zl zp zq,Zi 0,m4,Zi 3,Zi dp,Zk dc 0 k 0,Zl hp hq,Zl gp gq,Zn p0,Zk (N+7) 0 3 0,Zk s 0 (Yq code p0) 0,Zb true])] (Yh (Zg 1 [] [(29,Zq w 0)] [] (Yl [1] [1] Z6 J J J J (U6) J (Yh (Zg 1 [] [(31,Zq w 0)] [] (Yl [0] [0] Z6 J J J J (V2) J (Zv ?_))))))))
  refine HC_dm 7 [.ptr w 0,.sl (T+94) 0 33 0,.ptr N2 0,Zn op,.ptr (T+94) (0+op*4),.agg [t1,t2,Zb false,Zb e],.agg [Zn op,Zi n,Ze,Ze,Zl qa qb,Zi 0,Ze]] [(33,Zq w 0),(38,SV.agg [t1,t2,Zb false,Zb e]),(39,SV.agg [Zn op,Zi n,Ze,Ze,Zl qa qb,Zi 0,Ze])] Xy J
   ⟨X9 rfl rfl rfl,
    X9 rfl rfl rfl,
    X9 rfl rfl (by kernel_rfl),
    C8 rfl (Ws (fun _ hGG=>Yg rfl rfl rfl (hGG.get (i:=1) rfl) (by kernel_rfl)) trivial),
    X9 rfl rfl (W0 rfl rfl rfl (by kernel_rfl) (by omega)),
    C8 rfl (Ws (fun _ hGG=>Yg rfl rfl rfl (hGG.get (i:=2) rfl) (by have:=Ut (P:=Tryz.prog) (t:=264) (m:=4) (off:=0+op*4) (sb:=.row 264 4 33 (tabK T)) (c:=tabK T) (by kernel_rfl) (by kernel_rfl) rfl (by rw [hrow];rfl);rw [hrow] at this;exact this)) trivial),
    C8 rfl (Ws (fun _ hGG=>Yg rfl rfl rfl (hGG.get (i:=1) rfl) (by kernel_rfl)) trivial),trivial⟩
   (fun _ _ _ _ _ _ _ _ k=>Nk [0,12,11,3,4,5,6,7,8,9] [12,11,9,8,7,6,5,4,3,0] Z6 rfl rfl rfl rfl (hst) k) (fun _=>?_) rfl
  refine Gk (Qe (Ziy (Gk (Qe ?_))));exact Sg
end
end S
namespace S
open Go Go.RowKit E
section
set_option maxRecDepth 100000
variable {N g:Nat}
noncomputable def inoR:Option Rs:=R1 2000 (.call 106 [.mp 0] (stOf [.map []]))
theorem inoR_ok:isV inoR=true:=by kernel_rfl
theorem Zbp:HF Tryz.prog 106 [.mp g] N [(g,.map [])] fun u N' H'=>u=Zz/\N'=N+5/\H'=[(g,.map [])]:=by
 have h:=G2 (bs:=[g]) (N:=N) (G6 2000 _ _ (Hv inoR_ok)) rfl (by simp) (by kernel_rfl) (by kernel_rfl);have hv:ren (rho [g] N) (rsV inoR)=Zz:=by kernel_rfl
 have hn:N+((rsS inoR).n - [g].length)=N+5:=by kernel_rfl
 rw [show rsV (R1 2000 (.call 106 [.mp 0] (stOf [.map []])))=rsV inoR from rfl,hv] at h;rw [show rsS (R1 2000 (.call 106 [.mp 0] (stOf [.map []])))=rsS inoR from rfl,hn] at h;exact HF.less [0] h (by decide) (by kernel_rfl)
end
end S
end Go.Proofs.YtpofmnfkdkmieaaGreat
