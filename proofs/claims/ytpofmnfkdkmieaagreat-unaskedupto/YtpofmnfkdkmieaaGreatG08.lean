/- What is proved here: part 08. -/
import Derived.Test.YtpofmnfkdkmieaaGreatG07
import Derived.Test.YtpofmnfkdkmieaaGreatG09
import Derived.Carry
import Derived.Deep.Slices
import Derived.JoinedCond
import Derived.OpenShut
import Derived.ProofKit
import Derived.Test.YtpofmnfkdkmieaaGreatRows
set_option linter.all false
open Array renaming size->aj,toList->aG
open Bool renaming false->N,true->K
open ByteArray renaming size->bf
open Decidable renaming decide->cj
open Go renaming DataW->zL,MemPlace->CM,Program->aD,TypeId->fV,Value->bh,World->ap
open Go.Addr renaming add_lit->sg,add_zero'->aa6
open Go.Deep renaming open_slice->aa7
open Go.Proofs.Tryz renaming func130->abs,func240->QT,prog->T
open Go.World renaming cells?_some->aaf
open Int renaming le_refl->lQ,ofNat->fW,toNat->ad
open Int.ofNat renaming inj->Cz
open List renaming flatten->an,flatten_nil->asC,getElem_range->asH,length->Y,range->fX,replicate->e8,sum_cons->asY,toArray->E
open List.Perm renaming refl->go
open List.cons renaming inj->Fx
open Nat renaming ble->cY,le_succ_of_le->as2
open Option renaming none->Z,some->Q
open Option.some renaming inj->cx,injEq->hJ
set_option maxRecDepth 100000
set_option maxHeartbeats 4000000
noncomputable section
namespace Go.Proofs.YtpofmnfkdkmieaaGreat
open Go.Proofs.Tryz Go Go.RowKit
section
variable{u y z:Nat}{x w:Int}
def amy:c6 T 352 [.a y 0] u [(y,.a [V x,V w,.h z]),(z,.d 1 1)] λe b a=>e=R K/\b=u/\a=[(y,.a [V x,V w,.h z]),(z,.d 1 0)]:=by
 let c:=wU (z:=[y,z]) (y:=u) (amx (a:=jq [.a [V x,V w,.h 1],.d 1 1]) (g:=0) J J) J (ez J) M M;let d:EE [y,z] u ((jq [.a [V x,V w,.h 1],.d 1 1]).c 1<|Q<|.d 1 0)=[(y,.a [V x,V w,.h z]),(z,.d 1 0)]:=M
 rwa[d]at c
end
inductive mm(y:Nat->Nat->List Nat->bK->U->Prop)(x:Nat->bK->U->Prop)(z:Nat->Nat->bI->X->X->bK->U->Prop):Type|d(ha)(j)(l)(v)(u)(p)(r)(q)(k)(m:Nat)(n:y 0 ha [l,v,u,p,r,q] j k)|e(j)(l)(v)(u)(p)(r)(q)(k)(m:Nat)(n:y 1 0 [l,v,u,p,r,q] j k)|f(j:bK)(k)(m:Nat)(n:x 0 {j with d:=ab,e:=be} k)|g(j:bK)(l)(k)(m:Nat)(n:x l {j with d:=.d l 0 0 0,e:=be} k)|h(j:bK)(o)(t)(w)(s)(k)(m:Nat)(n:z 0 o t w s {j with d:=ab,e:=.a o 0} k)|i(j:bK)(l)(o)(t)(w)(s:X)(k:U)(m:Nat)(n:z l o t w s {j with d:=.d l 0 0 0,e:=.a o 0} k)
section
variable{z:Nat->Nat->W Nat->bK->U->Prop}{y:Nat->bK->U->Prop}{x:Nat->Nat->bI->X->X->bK->U->Prop}
def mm.c:mm z y x->Nat|.d j ..=>j+1|_=>0
def mm.b:mm z y x->Nat|.d _ _ _ _ _ _ _ _ _ j _=>j|.e _ _ _ _ _ _ _ _ k _=>k|.f _ _ l _=>l|.g _ _ _ m _=>m|.h _ _ _ _ _ _ n _=>n|.i _ _ _ _ _ _ _ o _=>o
def mm.a(j:Nat):mm z y x->U|.d _ k n m u s t r l _ _=>[(j,P.a [k.i,k.n,k.k,k.o,k.na,k.f,k.m,k.nb,k.l,.g k.a,k.g,.d n 0 (m+1) 0,.a u 0,V k.c,V k.h,k.b,k.e]),(u,.a [B t,B r,.h s]),(s,.d 1 0)]++l|.e l o k v t u s m _ _=>[(j,P.a [l.i,l.n,l.k,l.o,l.na,l.f,l.m,l.nb,l.l,.g l.a,l.g,.d o 0 (k+1) 0,.a v 0,V l.c,V l.h,l.b,l.e]),(v,.a [B u,B s,.h t]),(t,.d 1 1)]++m|.f m n _ _=>[(j,P.a [m.i,m.n,m.k,m.o,m.na,m.f,m.m,m.nb,m.l,.g m.a,m.g,ab,m.nc,V m.c,V m.h,m.b,be])]++n|.g n l o _ _=>[(j,P.a [n.i,n.n,n.k,n.o,n.na,n.f,n.m,n.nb,n.l,.g n.a,n.g,.d l 0 0 0,n.nc,V n.c,V n.h,n.b,be])]++o|.h o w q r v p _ _=>[(j,P.a [o.i,o.n,o.k,o.o,o.na,o.f,o.m,o.nb,o.l,.g o.a,o.g,ab,o.nc,V o.c,V o.h,o.b,.a w 0]),(w,.a [.a q.n 0,v]),(q.n,.a [O q.a,r,q.i,q.k,q.g,q.h,V q.b,q.e,q.d,q.f,q.c])]++p|.i p s k r t w q _ _=>[(j,P.a [p.i,p.n,p.k,p.o,p.na,p.f,p.m,p.nb,p.l,.g p.a,p.g,.d s 0 0 0,p.nc,V p.c,V p.h,p.b,.a k 0]),(k,.a [.a r.n 0,w]),(r.n,.a [O r.a,t,r.i,r.k,r.g,r.h,V r.b,r.e,r.d,r.f,r.c])]++q
end
section
variable{x:Nat->Nat->W Nat->bK->U->Prop}{w:Nat->bK->U->Prop}{u:Nat->Nat->bI->X->X->bK->U->Prop}{t:Int->ac->U->Prop}{s:U}{z y:Nat}
def aiO(a:mm x w u)(d:a.b=z)(e:∀i v n q m r o g h z,x 0 i [v,n,q,m,r,o] g h->D s T 353 [.a y 0] z ([(y,P.a [g.i,g.n,g.k,g.o,g.na,g.f,g.m,g.nb,g.l,.g g.a,g.g,.d v 0 (n+1) 0,.a q 0,V g.c,V g.h,g.b,g.e]),(q,.a [B r,B o,.h m]),(m,.d 1 0)]++h) (λk _ j=>k=.c []/\∃(p:Nat->mm x w u)(l:U),(∀z,(p z).c<i+1/\(p z).b=z/\(p z).a y=l)/\j.Perm l) H)(f:∀q o r n v p h i,x 1 0 [q,o,r,n,v,p] h i->t 4 bU ([(y,P.a [h.i,h.n,h.k,h.o,h.na,h.f,h.m,h.nb,h.l,.g h.a,h.g,.d q 0 (o+1) 0,.a r 0,V h.c,V h.h,h.b,h.e]),(r,.a [B v,B p,.h n]),(n,.d 1 0)]++i))(b:∀m v j,w m v j->t 1 bU ((y,v.nd)::j))(c:∀o m j i h g k,u o m j i h g k->t 2 j.a ((y,g.nd)::(m,.a [.a j.n 0,h])::(j.n,j.m i)::k)):D s T 317 [.a y 0] z (a.a y) (λl _ g=>∃k n,l=.c [V k,O n]/\t k n g) H:=by show D _ _ _ _ _ ([]++a.a y) _ _;refine ai func317 8 [] λj=>?_;refine sw (b:=mm x w u) (g:=(λ_=>[(0,.a y 0),(2,V 0),(3,O ⟨#[]⟩)])) (e:=mm.b) (c:=(mm.a y)) a er d J ?_;refine l1 (p:=mm x w u) mm.c (λ_=>[(0,.a y 0),(2,V 0),(3,O ⟨#[]⟩)]) mm.b (mm.a y) a ?_;rintro(⟨n,a,r,p,l,m,g,q,d,z,i⟩|⟨v,hj,p,l,m,g,q,hb,z,i⟩|⟨h,hc,z,i⟩|⟨o,hk,hd,z,i⟩|⟨ha,hh,k,hl,hf,he,z,i⟩|⟨a,r,hi,k,hm,hg,d,z,i⟩);apply bO 11 [0];refine kX J (Bv) ?_;apply aa 10 [0];refine b7 J 3 2 [1,2] ((amw.a (t:=λ_=>False))) ?_;rintro _ v _⟨rfl,_,rfl⟩;apply I 7 [];refine dQ J 3 [2,0,1] (e n r p l m g q a d _ i) ?_;rintro _ l a⟨rfl,h,e,o,d⟩;exists([]++e),((eF a).symm▸d);apply I 2 [];show br _ _ _ _ _ _ _ _ _ _ _ _ ([]++e);exact jh (h l) (o l).1 er (o l).2.1 (o l).2.2;apply bO 11 [0];refine kX J (Bv) ?_;apply aa 10 [0];refine b7 J 3 2 [1,2] ((amy.a (t:=λ_=>False))) ?_;rintro _ e _⟨rfl,_,rfl⟩;apply I 12 [];apply dI;apply aL .c 2 [];refine da 3 [2,0,1] J ?_;exact⟨4,bU,J,f _ _ _ _ _ _ _ _ i⟩;apply bO 14 [0];apply ch;refine aL (.b _) 22 [0] ?_;refine da 1 [0] J ?_;exact⟨1,bU,J,b _ _ _ i⟩;apply bO 14 [0];apply ch;refine aL (.b _) 22 [0] ?_;refine da 1 [0] J ?_;exact⟨1,bU,J,b _ _ _ i⟩;apply bO 14 [0];apply ch;refine aL (.b _) 14 [0] ?_;refine bD (j:=1) bC j ?_;refine bF (c:=[0,1,2]) [0,1,2,3,4,5,6,7,8,9,10,11] ?_;apply aL .a 3 [];refine da 3 [0,1,2] J ?_;exact⟨2,k.a,J,c _ _ _ _ _ _ _ i⟩;apply bO 14 [0];apply ch;refine aL (.b _) 14 [0] ?_;refine bD (j:=1) bC j ?_;refine bF (c:=[0,1,2]) [0,1,2,3,4,5,6,7,8,9,10,11] ?_;apply aL .a 3 [];refine da 3 [0,1,2] J ?_;exact⟨2,k.a,J,c _ _ _ _ _ _ _ i⟩
end
def iB(c:Nat)(a:bV):Prop:=Y a.a<=c/\Y a.f<=1000/\∀b,a.b=Q b->17<=b
structure eQ(g)(j h)(f):Prop where
 e:fw g f
 b:Y f.c<=h
 c:Y f.b<=g.b
 a:∀i∈f.b,iB j i
section
variable{s:a8}{y r:Nat}{u t:ag}{w x z:bV}{v:ih}{q:S Nat}{p:Int}
def iB.a(z:iB y w):iB (y+1) w:=⟨as2 z.1,z.2⟩
def mG(z:eH w=Q (v,x))(a:iB y w):Y x.a+1<=y/\Y x.f<=1000/\iB y x:=by
 rw[eH]at z;let⟨e,b,r⟩:=b3.1 z;cases r;let c:w.a≠[]:=λr=>by rw[r]at b;cases b
 let d:Y w.a.dropLast+1=Y w.a:=by rw[JY];have:=PY.2 c;omega
 have:=a.1;exact⟨by show Y w.a.dropLast+1<=y;omega,a.2.1,by show Y w.a.dropLast<=y;omega,a.2⟩
def xl{b}(z:hM w=Q (b,x))(a:iB y w):Y x.a+1<=y/\iB y x:=by
 rw[hM]at z;split at z;next c=>cases z;exact⟨(mG c a).1,(mG c a).2.2⟩
 cases z
def zg{a b}(z:gL w=Q (a,b,x))(c:iB y w):Y x.a+1<=y/\iB y x:=by
 rw[gL]at z;split at z;next d=>split at z;(next e=>cases z;exact xl e (xl d c).2);cases z
 cases z
def BR{b}(z:iN w=Q (b,x))(a:iB y w):Y x.a+1<=y/\iB y x:=by
 rw[iN]at z;split at z;next c=>cases z;exact⟨(mG c a).1,(mG c a).2.2⟩
 next d=>cases z;exact⟨(mG d a).1,(mG d a).2.2⟩
 cases z
def IW{b}(z:kT w=Q (b,x))(a:iB y w):Y x.a+1<=y/\iB y x:=by
 rw[kT]at z;split at z;next c=>cases z;exact⟨(mG c a).1,(mG c a).2.2⟩
 next d=>cases z;exact⟨(mG d a).1,(mG d a).2.2⟩
 cases z
def fw.a(n:fw s u)(j:t.a=u.a)(o:t.m=u.m)(p:t.d=u.d)(q:t.f=u.f)(v:t.l<=u.l)(r:t.k=u.k):fw s t:=by let⟨⟨w,v⟩,x,hc,z,ha,hb⟩:=n;refine⟨⟨?_,by rw[j];exact v⟩,by rw[q];exact x,L,by rw[r];exact z,by rw[j];exact ha,?_⟩;unfold gj at w⊢;rw[j,o,p];exact w;intro y z n x;rw[j]at x;exact hb y z n x
structure mV(s)(y)(u)(w):Prop where
 g:fw s u
 f:Y u.b+1<=s.b
 e:∀x∈u.b,iB y x
 h:iB y w
def mV.c(i:mV s y u w)(k:fw s t)(j:t.b=u.b)(l:Y t.c<=r)(m:iB (y+1) x):eQ s (y+1) r (aV t x):=by refine⟨k.a J J J J (lQ _) J,l,?_,λz n=>?_⟩;show Y (x::t.b)<=s.b;rw[j];exact i.f;let n:=n;rcases cB.1 n with rfl|o;exact m;exact(i.e z (by rw[<-j];exact o)).a
def mV.b(k:mV s y u w)(l:fw s t)(n:t.b=u.b)(m:Y t.c<=r)(i:iB y x){j}(z:ep t x v=Q (q,j)):eQ s (y+1) r j:=by cases z;exact k.c l n m ⟨by simp only[bJ,fB];have:=i.1;omega,i.2⟩
def mV.a{l}(i:mV s y u w)(j:Y u.c<=r)(k:iB y x)(z:fJ u x l=Q (q,t)):eQ s (y+1) r t:=by cases z;have:=i.c i.g J j k.a;exact⟨this.e.a J J J J (lQ _) J,this.b,this.c,this.a⟩
def mV.d{j}(i:mV s y u w)(l:Y u.c<=r)(k:iB y x)(z:uP u x j p=Q (q,t)):eQ s (y+1) r t:=by cases z;exact i.c i.g J l (by cases j;exact k.a;exact k.a)
end
inductive ji(n:U->Prop)(o:Nat->U->Prop)(p q:U->Prop):Type|g(j)(l:Nat)(m:n j)|h(r)(j)(l:Nat)(m:o r j)|i(j)(l:Nat)(m:p j)|k(j)(l:Nat)(m:q j)
section
variable{z:U->Prop}{y:Nat->U->Prop}{x w:U->Prop}
def ji.f:ji z y x w->Nat|.g _ _ _=>0|.h j _ _ _=>j+2|.i _ _ _=>1|.k _ _ _=>0
def ji.b:ji z y x w->Nat|.g _ j _=>j|.h _ _ l _=>l|.i _ m _=>m|.k _ n _=>n
def ji.c:ji z y x w->aJ|.k _ _ _=>K|_=>N
def ji.d:ji z y x w->U|.g j _ _=>j|.h _ l _ _=>l|.i m _ _=>m|.k n _ _=>n
def ji.e(j l m:Nat):ji z y x w->U|.g n _ _=>[(j,.a [.a l 0,.a m 0])]++n|.h _ o _ _=>[(j,.a [.a l 0,.a m 0])]++o|.i p _ _=>[(j,.a [.a l 0,.a m 0])]++p|.k q _ _=>[(j,.a [.a l 0,.a m 0])]++q
def ji.a{l m n}(j:ji z y x w):j.e l m n=[(l,.a [.a m 0,.a n 0])]++j.d:=by cases j<;>rfl
end
section
variable{s:U->Prop}{r:Nat->U->Prop}{q t:U->Prop}{n:Nat->U->Prop}{m l:U->Prop}{p:Int->ac->U->Prop}{u o:U}{z w y x:Nat}
def an8(a:Nat->ji s r q t)(b:∀z,(a z).b=z/\(a z).c=N/\(a z).d=o)(c:∀k z,s k->D u T 316 [.a w 0,.a y 0] z k (λhd _ hc=>∃(k:Nat)(j:bI)(hb ha:X)(v:U),hd=.c [.a k 0,R K]/\p 2 j.a ((k,.a [.a j.n 0,ha])::(j.n,j.m hb)::v)/\hc.Perm ((k,.a [.a j.n 0,ha])::(j.n,j.m hb)::v)) H)(d:∀j v z,r j v->D u T 316 [.a w 0,.a y 0] z v (λha _ k=>ha=.c [be,R N]/\n j k) H)(f:∀j z,q j->D u T 316 [.a w 0,.a y 0] z j (λk _ v=>k=.c [be,R K]/\m v) H)(e:∀hb k z,n hb k->D u T 317 [.a w 0] z k (λhc _ j=>∃(v:Int)(ha:ac),hc=.c [V v,O ha]/\((!(ao v 1))=K->p v ha j)/\((!(ao v 1))=N->∃k:Nat->ji s r q t,∀z,(k z).f<hb+2/\(k z).b=z/\(k z).c=N/\(k z).d=j)) H)(g:∀j z,m j->D u T 317 [.a w 0] z j (λha _ v=>∃(j:Int)(k:ac),ha=.c [V j,O k]/\((!(ao j 1))=K->p j k v)/\((!(ao j 1))=N->t v)) H)(h:∀v z,t v->D u T 306 [.a w 0,.a x 0,ab] z v (λha _ j=>∃k,ha=.a k 0/\l j) H)(i:∀k z,l k->D u T 317 [.a w 0] z k (λhb _ ha=>∃(j:Int)(v:ac),hb=.c [V j,O v]/\p j v ha) H):D u T 241 [.a w 0,.b [.a y 0,.a x 0]] z o (λhc _ ha=>∃v k hb j,hc=.c [V v,O k]/\p v k j/\ha.Perm (hb::j)) H:=by refine D.b (o:=[]++o) (go _) ?_;refine ai func241 14 [] λhb=>?_;refine sw (b:=ji s r q t) (g:=(λv=>[(0,.a w 0),(3,.a z 0),(6,R v.c)])) (e:=ji.b) (c:=(ji.e z y x)) (a<|z+1) ⟨J,J,(by rw[(b<|z+1).2.1];rfl),C⟩ (b<|z+1).1 ((a<|z+1).a.trans (by rw[(b<|z+1).2.2];rfl)) ?_;refine l1 (p:=ji s r q t) ji.f (λb=>[(0,.a w 0),(3,.a z 0),(6,R b.c)]) ji.b (ji.e z y x) (a<|z+1) ?_;rintro(⟨k,a,v⟩|⟨b,k,j,v⟩|⟨k,ha,v⟩|⟨k,hc,v⟩);apply bO 22 [0];refine dQ J 1 [] (c k _ v) ?_;rintro _ hg hf⟨hd,j,he,c,a,rfl,ha,hc⟩;exists([(hd,P.a [X.a j.n 0,c]),(j.n,P.a [O j.a,he,j.i,j.k,j.g,j.h,V j.b,j.e,j.d,j.f,j.c]),(z,P.a [X.a y 0,X.a x 0])]++a),((hc.append_right _).trans<|(en.cons _).cons _);apply I 15 [];refine bD (j:=1) bC hb ?_;refine bF (c:=[0,1]) [0,1,2,3,4,5,6,7,8] ?_;apply aL .a 4 [];apply dI;apply aL .c 2 [];refine da 3 [2,0,1] J ?_;exact⟨2,j.a,_,_,J,ha,go _⟩;apply bO 22 [0];refine dQ J 1 [] (d b k _ v) ?_;rintro _ c a⟨rfl,d⟩;exists([(z,P.a [X.a y 0,X.a x 0])]++a),en;apply I 19 [];refine dQ J 1 [] (e b a _ d) ?_;rintro _ a d⟨ha,c,rfl,b,j⟩;exists([(z,P.a [X.a y 0,X.a x 0])]++d),en;apply I 13 [];refine aP J (λe=>?_)<|λe=>?_;apply aa 10 [];apply dI;apply aL .c 2 [];refine da 1 [0] J ?_;exact⟨ha,c,_,d,J,b e,go _⟩;apply aa 2 [];show br _ _ _ _ _ _ _ _ _ _ _ _ ([(z,P.a [X.a y 0,X.a x 0])]++d);let⟨d,c⟩:=j e;exact jh (d a) (c a).1 ⟨J,J,(by rw[(c a).2.2.1];rfl),C⟩ (c a).2.1<|(d a).a.trans<|(c a).2.2.2▸J;apply bO 22 [0];refine dQ J 1 [] (f k _ v) ?_;rintro _ e b⟨rfl,f⟩;exists([(z,P.a [X.a y 0,X.a x 0])]++b),en;apply I 19 [];refine dQ J 1 [] (g b _ f) ?_;rintro _ c b⟨d,e,rfl,g,a⟩;exists([(z,P.a [X.a y 0,X.a x 0])]++b),en;apply I 13 [];refine aP J (λf=>?_)<|λf=>?_;apply aa 10 [];apply dI;apply aL .c 2 [];refine da 1 [0] J ?_;exact⟨d,e,_,b,J,g f,go _⟩;apply aa 2 [];show br _ _ _ _ _ _ _ _ _ _ _ _ ([(z,P.a [X.a y 0,X.a x 0])]++b);exact jh (.k b c<|a f) (by show 0<1;omega) er J J;apply bO 10 [];apply ch;refine aL (.b _) 7 [0] ?_;refine dQ J 1 [] (h k _ v) ?_;rintro _ f g⟨d,rfl,h⟩;exists([(z,P.a [X.a y 0,X.a x 0])]++g),en;apply I 5 [];refine dQ J 1 [] (i g _ h) ?_;rintro _ f h⟨e,i,rfl,g⟩;exists([(z,P.a [X.a y 0,X.a x 0])]++h),en;apply I 7 [];refine da 1 [0] J ?_;exact⟨e,i,_,h,J,g,go _⟩
end
section
variable{x y z e:Nat}{w u t s r q p o n m l k i h g f:X}{p1:ac}{p0:W (ac×X)}
def apm(a:cp p1 p0=Q (.e 323<|.b [.a e 0])):c6 T 239 [.a x 0,O p1] z [(x,.a [w,u,t,s,r,q,p,o,n,.g y,m,l,k,i,h,g,f]),(y,.c p0)] λj c b=>j=.a e 0/\c=z+1/\b=[(x,.a [w,u,t,s,r,q,p,o,n,.g y,m,l,k,i,h,g,f]),(y,.c p0),(z,.a [.a e 0])]:=by refine io func239 J ntmps239 λ_ _ _ _=>?_;apply bO 13 [0];refine yu (hl:=1) (y:=325) (b:=.nilIface) (v:=.e 323<|.b [.a e 0]) J J M M J J J (λ_ d=>by cases d<;>rfl) J (by rw[a];rfl) J<|I 27 [0,0]<|eg [1,2,0] (.inr J) aI J A ?_;exists J,J
inductive Az:Type|b|c(o9)(h:o9+1<=16)(g:Nat)(f:P)
def Az.d:Az->Nat|.b=>0|.c e _ _ _=>e+1
def Az.a:Az->U|.b=>[]|.c _ _ f e=>[(f,e)]
def agU{a:U}:D a T 129 [.a x 0] z ([(x,.a [w,u,t,s,r,q,p,o,n,.g y,m,l,k,i,h,g,f]),(y,.c [])]++[]) (λb e d=>∃j c,b=.c []/\e=z+1+33/\d=[(x,.a [w,u,t,s,r,q,p,o,n,.g y,m,l,k,i,h,g,f]),(y,.c<|im (z+1) 17),(z,.b 9 1 17 jM),(j,c)]++iF (z+1) 17) H:=by
 refine ai func129 2 [] λj=>?_;refine b7 J 2 1 [] ((akB).a (u:=[]) (t:=λ_=>False)) ?_;rintro _ _ _⟨rfl,rfl,rfl⟩;apply I 5 [];refine afk<|afj ?_;apply bO 14 [];refine mo (he:=0) (v:=O<|hW 0) J J J J (fS M J) J ?_;apply I 6 [];refine b7 J 3 0 [] ((O5 (j:=0) L).a (u:=[]) (t:=λ_=>False)) ?_;rintro _ _ _⟨rfl,rfl,rfl⟩;apply I 7 [];refine bD (j:=4) bC j ?_;refine aW (hb:=[1]) 8 [0,1,2,3,4,5,6,7] λe d c=>?_;refine b7 J 3 2 [1,2] ((apl J).a (u:=[]) (t:=λ_=>False)) ?_;rintro _ z _⟨rfl,rfl,rfl⟩;refine c ?_;refine aW (hc:=[0]) 10 [9] λe c d=>?_;refine eq 1 [] ?_;refine d ?_;refine aW (hc:=[1]) 13 [11,12] λc d e=>?_;refine DE (j:=2) (k:=325) ([((z+1),P.a [O<|hW 0,be,O ⟨#[]⟩,O ⟨#[]⟩,ab,ab,V 1,ab,ab,ab,ab]),(x,P.a [w,u,t,s,r,q,p,o,n,X.g y,m,l,k,i,h,g,f]),(y,P.c<|im (z+1) 1),(z,P.b 9 1 17 jM)]++(iF (z+1) 0)) J J J M J J J J J J J (J) ?_;refine e (v:=.c []) ?_;refine bF [] ?_;refine L3 (a:=[(x,.a [w,u,t,s,r,q,p,o,n,X.g y,m,l,k,i,h,g,f]),(y,.c<|im (z+1) 1),(z,.b 9 1 17 jM)]) (d:=(iF (z+1) 0)) (e:=((z+1),.a [O<|hW 0,be,O ⟨#[]⟩,O ⟨#[]⟩,ab,ab,V 1,ab,ab,ab,ab])) ([((z+1),P.a [O<|hW 0,be,O ⟨#[]⟩,O ⟨#[]⟩,ab,ab,V 1,ab,ab,ab,ab]),(x,P.a [w,u,t,s,r,q,p,o,n,X.g y,m,l,k,i,h,g,f]),(y,P.c<|im (z+1) 1),(z,P.b 9 1 17 jM)]++(iF (z+1) 0)) (go _) ?_;show br _ _ _ _ _ _ _ _ _ _ _ _ ([(x,P.a [w,u,t,s,r,q,p,o,n,X.g y,m,l,k,i,h,g,f]),(y,P.c<|im (z+1) 1),(z,P.b 9 1 17 jM)]++(iF (z+1) 1));refine aL .a 6 [] ?_;refine eC ?_;refine sw (b:=Az) (g:=(λb=>[(0,.a x 0),(6,.d z 0 17 0),(7,B 17),(8,B<|b.d+1)])) (e:=(λc=>z+1+2*c.d+1)) (c:=(λv=>[(x,P.a [w,u,t,s,r,q,p,o,n,.g y,m,l,k,i,h,g,f]),(y,P.c<|im (z+1)<|v.d+1)]++(v.a++([(z,P.b 9 1 17 jM)]++iF (z+1) (v.d+1))))) .b ⟨J,J,J,M,C⟩ J J ?_;refine l1 (p:=Az) (λd=>16-d.d) (λb=>[(0,.a x 0),(6,.d z 0 17 0),(7,B 17),(8,B<|b.d+1)]) (λc=>z+1+2*c.d+1) (λb=>[(x,P.a [w,u,t,s,r,q,p,o,n,.g y,m,l,k,i,h,g,f]),(y,P.c<|im (z+1)<|b.d+1)]++(b.a++([(z,P.b 9 1 17 jM)]++iF (z+1) (b.d+1)))) .b ?_;rintro(⟨⟩|⟨b,e,d,c⟩);refine bO 6 [] ?_;refine kX J (J) ?_;refine aa 6 [] ?_;refine dZ (v:=.a z<|0+(0+1)*1) J (fi J J J M L) J ?_;refine mo (he:=2) (v:=O<|hW<|0+1) J J J J (fS M<|Xy (j:=0+1) L) J ?_;refine I 6 [] ?_;refine b7 J 3 0 [] ((O5 (j:=0+1) L).a (u:=[]) (t:=λ_=>False)) ?_;rintro _ _ _⟨rfl,rfl,rfl⟩;refine I 7 [] ?_;refine bD (j:=4) bC j ?_;refine aW (hb:=[0]) 8 [0,1,2,3,4,5,6,7] λha e v=>?_;refine b7 J 3 3 [0,1] ((apm<|VC (j:=0) L).a (u:=[]) (t:=λ_=>False)) ?_;rintro _ _ _⟨rfl,rfl,rfl⟩;refine v ?_;refine aW (hc:=[0]) 10 [9] λha v e=>?_;refine eq 1 [] ?_;refine e ?_;refine aW (hc:=[1]) 13 [11,12] λha e v=>?_;refine DE (j:=2) (k:=325) ([(((z+1+2*0+1)+1),P.a [O<|hW<|0+1,X.a (z+1+2*pl (0+1)) 0,O ⟨#[]⟩,O ⟨#[]⟩,ab,ab,V 1,ab,ab,ab,ab]),(x,P.a [w,u,t,s,r,q,p,o,n,X.g y,m,l,k,i,h,g,f]),(y,P.c<|im (z+1)<|0+1+1),((z+1+2*0+1),P.a [X.a (z+1+2*pl (0+1)) 0]),(z,P.b 9 1 17 jM)]++(iF (z+1)<|0+1)) J J J M J J J J J J J (J) ?_;refine v (v:=.c []) ?_;refine bF [] ?_;refine L3 (a:=[(x,.a [w,u,t,s,r,q,p,o,n,X.g y,m,l,k,i,h,g,f]),(y,.c<|im (z+1)<|0+1+1),((z+1+2*0+1),.a [X.a (z+1+2*pl (0+1)) 0]),(z,.b 9 1 17 jM)]) (d:=(iF (z+1)<|0+1)) (e:=(((z+1+2*0+1)+1),.a [O<|hW<|0+1,X.a (z+1+2*pl (0+1)) 0,O ⟨#[]⟩,O ⟨#[]⟩,ab,ab,V 1,ab,ab,ab,ab])) ([(((z+1+2*0+1)+1),P.a [O<|hW<|0+1,X.a (z+1+2*pl (0+1)) 0,O ⟨#[]⟩,O ⟨#[]⟩,ab,ab,V 1,ab,ab,ab,ab]),(x,P.a [w,u,t,s,r,q,p,o,n,X.g y,m,l,k,i,h,g,f]),(y,P.c<|im (z+1)<|0+1+1),((z+1+2*0+1),P.a [X.a (z+1+2*pl (0+1)) 0]),(z,P.b 9 1 17 jM)]++(iF (z+1)<|0+1)) (go _) ?_;show br _ _ _ _ _ _ _ _ _ _ _ _ ([(x,P.a [w,u,t,s,r,q,p,o,n,X.g y,m,l,k,i,h,g,f]),(y,P.c<|im (z+1)<|0+1+1),((z+1+2*0+1),P.a [X.a (z+1+2*pl (0+1)) 0]),(z,P.b 9 1 17 jM)]++(iF (z+1)<|0+1+1));refine aL .a 3 [] ?_;refine dZ (v:=B<|(0+1)+1) J (gP J J J L) J ?_;refine I 2 [] ?_;show br _ _ _ _ _ _ _ _ _ _ _ _ ([(x,P.a [w,u,t,s,r,q,p,o,n,X.g y,m,l,k,i,h,g,f]),(y,P.c<|im (z+1)<|0+1+1),((z+1+2*0+1),P.a [X.a (z+1+2*pl (0+1)) 0]),(z,P.b 9 1 17 jM)]++(iF (z+1)<|0+1+1));exact jh (.c 0 L (z+1+2*0+1)<|.a [.a (z+1+2*pl (0+1)) 0]) (by show 16-1<16-0;omega) cU J J;refine bO 6 [] ?_;refine aP J (λe=>?_)<|λe=>?_;have v:b+1+1<17:=by have:=dK.1<|show aF (.ofNat<|b+1+1) (.ofNat 17)=K from e;simp at this;omega
 refine aa 6 [] ?_;refine dZ (v:=.a z<|0+(b+1+1)*1) J (fi J J J M L) J ?_;refine mo (he:=3) (v:=O<|hW<|b+1+1) J J J J (fS M<|Xy v) J ?_;refine I 6 [] ?_;refine b7 J 4 0 [] ((O5 v).a (u:=[]) (t:=λ_=>False)) ?_;rintro _ _ _⟨rfl,rfl,rfl⟩;refine I 7 [] ?_;refine bD (j:=4) bC j ?_;refine aW (hb:=[0]) 8 [0,1,2,3,4,5,6,7] λha v j=>?_;refine b7 J 4 2 [0,1] ((Pf<|VC L).a (u:=[]) (t:=λ_=>False)) ?_;rintro _ _ _⟨rfl,rfl,rfl⟩;refine j ?_;refine aW (hc:=[0]) 10 [9] λha v j=>?_;refine eq 1 [] ?_;refine j ?_;refine aW (hc:=[1]) 13 [11,12] λha j v=>?_;refine DE (j:=2) (k:=325) ([(((z+1+2*(b+1)+1)+1),P.a [O<|hW<|b+1+1,X.a (z+1+2*pl (b+1+1)) 0,O ⟨#[]⟩,O ⟨#[]⟩,ab,ab,V 1,ab,ab,ab,ab]),(x,P.a [w,u,t,s,r,q,p,o,n,X.g y,m,l,k,i,h,g,f]),(y,P.c<|im (z+1)<|b+1+1+1),(d,c),(z,P.b 9 1 17 jM)]++(iF (z+1)<|b+1+1)) J J J M J J J J J J J (J) ?_;refine v (v:=.c []) ?_;refine bF [] ?_;refine L3 (a:=[(x,.a [w,u,t,s,r,q,p,o,n,X.g y,m,l,k,i,h,g,f]),(y,.c<|im (z+1)<|b+1+1+1),(d,c),(z,.b 9 1 17 jM)]) (d:=(iF (z+1)<|b+1+1)) (e:=(((z+1+2*(b+1)+1)+1),.a [O<|hW<|b+1+1,X.a (z+1+2*pl (b+1+1)) 0,O ⟨#[]⟩,O ⟨#[]⟩,ab,ab,V 1,ab,ab,ab,ab])) ([(((z+1+2*(b+1)+1)+1),P.a [O<|hW<|b+1+1,X.a (z+1+2*pl (b+1+1)) 0,O ⟨#[]⟩,O ⟨#[]⟩,ab,ab,V 1,ab,ab,ab,ab]),(x,P.a [w,u,t,s,r,q,p,o,n,X.g y,m,l,k,i,h,g,f]),(y,P.c<|im (z+1)<|b+1+1+1),(d,c),(z,P.b 9 1 17 jM)]++(iF (z+1)<|b+1+1)) (go _) ?_;show br _ _ _ _ _ _ _ _ _ _ _ _ ([(x,P.a [w,u,t,s,r,q,p,o,n,X.g y,m,l,k,i,h,g,f]),(y,P.c<|im (z+1)<|b+1+1+1),(d,c),(z,P.b 9 1 17 jM)]++(iF (z+1)<|b+1+1+1));refine aL .a 3 [] ?_;refine dZ (v:=B<|(b+1+1)+1) J (gP J J J L) J ?_;refine I 2 [] ?_;show br _ _ _ _ _ _ _ _ _ _ _ _ ([(x,P.a [w,u,t,s,r,q,p,o,n,X.g y,m,l,k,i,h,g,f]),(y,P.c<|im (z+1)<|b+1+1+1),(d,c),(z,P.b 9 1 17 jM)]++(iF (z+1)<|b+1+1+1));exact jh (.c (b+1) L d c) (by show 16-(b+1+1)<16-(b+1);omega) cU J J;have j:b=15:=by have:¬((b:Int)+1+1<17):=λa=>(jz.1<|show aF (.ofNat<|b+1+1) (.ofNat 17)=N from e)<|dK.2 (by simpa using a);omega
 refine aa 2 [] ?_;refine ch ?_;refine afS (a:=.b _) J ?_;refine aL (.b _) 1 [] ?_;refine da 4 [0,1,3,2] J ?_;subst j;exact⟨d,c,J,J,J⟩
end
section
variable(z:ap)
def ed:bh->X|.slice (Q ⟨a,d,Z⟩) (c+1) b=>(match z.heap[a]? with|Q (.cells e _ _)=>if b<=aj e then .d a d (c+1) (aj e-b)else .k (.slice (Q ⟨a,d,Z⟩) (c+1) b)|_=>.k (.slice (Q ⟨a,d,Z⟩) (c+1) b))|v=>.k v
def rC:bs:=λa=>match z.heap[a]? with|Q (.cells b _ _)=>Q (a,aj b)|_=>Z
def sN:Nat->S P:=λc=>match z.heap[c]? with|Q (.cells a d b)=>Q (.k (a.toList.map<|ed z) d b)|_=>Z
def iw:U:=(fX<|aj z.heap).filterMap λa=>(sN z a).map λb=>(a,b)
end
section
variable{z:ap}{v:bh}{y:Nat}{x:P}
def ai0(a:sN z y=Q x):y<aj z.heap:=by rw[sN]at a;rcases dy y (aj z.heap)with b|b;exact b;rw[uv b]at a;cases a
def Jq:(y,x)∈iw z↔sN z y=Q x:=by rw[iw];rw[us];constructor;rintro⟨f,_,c⟩;let⟨e,d,b⟩:=b3.1 c;cases b;exact d;intro a;exact⟨y,pr.2<|ai0 a,by rw[a];rfl⟩
def Hz:aT (rC z) (ed z v)=Q v:=by
 unfold ed;split;split;next b _ _ a=>split;(next c=>show(rC z _).map _=_;rw[rC];rw[a];simp only[dD,hJ];congr 1;omega);rfl
 rfl;rfl
def MO:∀a:W bh,bm (rC z) (a.map<|ed z)=Q a|[]=>rfl|v::b=>by rw[c4];simp only[bm,Hz,MO b]
def ai4:cR z ((iw z).map (·.1)) (rC z) (aj z.heap) (sN z) z:=by
 refine⟨hK.g _ _,λp a=>?_,λe u a=>?_,λe j w x r t a o l m i=>?_⟩;have:=uv a;rw[rC,sN];rw[this];exists J;let k:=jx (f:=(·.1))<|Jq.2 a;rw[sN]at a;split at a;next c v n d=>cases a;refine⟨(e,aj c),by rw[rC];rw[d],?_,.inl k⟩;rw[d];exact⟨aG c,MO _,J,az⟩
 cases a;let g:∀{f h},rC z f=Q h->h.1=f:=λ{q s}b=>by rw[rC]at b;split at b;cases b;rfl;cases b
 rwa[g l,g m]at i
def MA{c b a d}(f:bm (rC z) b=Q a)(e:bZ (iw z) T c b (λh=>h=.k d) H):yc T c (E a) z d:=by
 have k:=ai4 (z:=z);have r:=(e<|aj z.heap).2 (sN z) ⟨nofun,tc⟩ (λm i=>⟨Jq.1 i,nofun⟩) (λg w=>(k.a g w).2) z _ (rC z) z a k f;apply(callsIn_wide.1 r).mono;rintro p t(⟨v,o,k,w,j,⟨l,⟨rfl,rfl,rfl⟩,d⟩,rfl,n,u,h⟩|⟨s,e,_⟩);have q:=eh u;subst q;refine⟨J,⟨h.c.h,h.c.f,h.c.c,h.c.a,λj l=>?_⟩⟩;cases g:sN z j with|none=>refine h.c.b j l λy=>?_;obtain⟨⟨r,x⟩,a,rfl⟩:=cw.1 y;rw[Jq.1 a]at g;cases g|some f=>have s:=d.c j f g nofun;let⟨m,i,t,_⟩:=h.b j _ s;rw[n.e j l]at i;rw[sN]at g;split at g;(next p u q m=>cases g;rw[rC]at i;rw[m]at i;cases i;let⟨i,c,b,_⟩:=t;have o:=jL n.b _ _<|MO<|aG p;rw[c]at o;cases o;rw[b,m]);cases g
 exact e.elim
end
section
variable{u:a8}{t:Nat}{y s w:ag}{r x z:bV}{q:S Nat}{p:Int}{o:Nat}
def Yq{a}(c:fw u y)(b:0<=a)(z:lC y a=Q w):w={y with l:=y.l-(1+a)}/\a<y.l:=by rw[lC]at z;split at z;cases z;next d=>cases z;exact⟨J,L⟩
def am8(a:mV u t y r)(b:Y u.c<=2000000)(z:cf u y r o p=Q (q,s)):eQ u (t+1) (Y y.c+1) s:=by
 let c:Y y.c<=Y y.c+1:=mM _;let d:=a.h;unfold cf at z;split at z;cases z;exact a.c a.g J c d.a;exact a.b a.g J c d z;let⟨e,_,z⟩:=ay.1 z;exact a.b a.g J c d z;let⟨⟨f,x⟩,e,z⟩:=ay.1 z;have:=mG e d;simp only at z;split at z;cases z;exact a.c a.g J c ⟨by have:=this.2.2.1;show Y x.a<=t+1;omega,by simp only[ib];exact this.2.1,this.2.2.2.2⟩;cases z;let⟨⟨h,x⟩,g,z⟩:=b3.1 z;cases z;exact a.c a.g J c (mG g d).2.2.a;let⟨g,_,z⟩:=ay.1 z;exact a.b a.g J c d z;let⟨⟨v,n,x⟩,m,z⟩:=ay.1 z;exact a.b a.g J c (zg m d).2 z;let⟨⟨m,v,x⟩,n,z⟩:=ay.1 z;exact a.b a.g J c (zg n d).2 z;let⟨⟨f,e,x⟩,v,z⟩:=ay.1 z;exact a.b a.g J c (zg v d).2 z;let⟨⟨g,f,x⟩,e,z⟩:=ay.1 z;simp only at z;split at z;exact a.a c (zg e d).2 z;exact a.b a.g J c (zg e d).2 z;exact a.d c d z;let⟨⟨h,x⟩,e,z⟩:=ay.1 z;exact a.d c (xl e d).2 z;let⟨⟨i,g,x⟩,f,z⟩:=ay.1 z;exact a.d c (zg f d).2 z;let⟨⟨i,x⟩,g,z⟩:=ay.1 z;exact a.d c (mG g d).2.2 z;exact a.b a.g J c d z;cases z;have:∀w:ag,w.a=y.a->w.m=y.m->w.d=y.d->w.f=y.f->w.l=y.l->w.k=y.k->Y w.c<=Y y.c+1->w.b=y.b->eQ u (t+1) (Y y.c+1) w:=λw h n f i k l m g=>⟨a.g.a h n f i (k▸lQ _) l,m,by rw[g];have:=a.f;omega,λx v=>(a.e x<|g▸v).a⟩;split;exact this _ J J J J J J (by simp[bX]) J;exact this _ J J J J J J c J;let⟨⟨l,x⟩,m,z⟩:=ay.1 z;simp only at z;split at z;next f n m=>cases z;let h:=a.e f<|m▸.head _;(let v:Y n+1=Y y.b:=by rw[m];rfl);refine⟨a.g.a J J J J (lQ _) J,c,?_,λi g=>?_⟩;show Y (_::n)<=_;have:=a.f;simp only[de];omega;rcases cB.1 (show i∈{f with a:=f.a++[l]}::n from g)with rfl|k;exact⟨by simp only[bJ,fB];have:=h.1;omega,h.2⟩;exact(a.e i<|m▸.tail _ k).a
 cases z;let⟨⟨l,x⟩,f,z⟩:=ay.1 z;simp only at z;split at z;exact a.a c (BR f d).2 z;cases z;exact a.c a.g J c (BR f d).2.a;cases z;exact a.c a.g J c d.a;let⟨⟨k,x⟩,i,z⟩:=ay.1 z;exact a.b a.g J c (mG i d).2.2 z;let⟨⟨l,x⟩,k,z⟩:=ay.1 z;cases z;have:=a.c a.g J c (xl k d).2.a;exact⟨this.e.a J J J J (lQ _) J,by simp[bX,aV],this.c,this.a⟩;split at z;next k g=>(let e:fw u {y with k:=y.k+1}:=by let⟨⟨n,f⟩,i,k,h,v,l⟩:=a.g;exists⟨n,f⟩,i,k,(bc.1 g).1,v);exact a.b e J c d z
 exact a.b a.g J c d z;let⟨⟨e,x⟩,g,z⟩:=ay.1 z;simp only at z;split at z;exact a.a c (xl g d).2 z;next h=>split at z;exact a.a c (xl g d).2 z;next w i=>obtain⟨rfl,k⟩:=Yq a.g (vI.1 h) i;(let n:fw u {({y with l:=y.l-(1+e)})with f:=y.f++[e8 (ad e) 0]}:=by let⟨⟨v,h⟩,l,f,m,i,k⟩:=a.g;refine⟨⟨v,h⟩,λj ha f=>?_,by show y.l-(1+e)<=10000;omega,m,i,k⟩;rcases dl.1 (bl f)with k|k;let⟨h,b⟩:=CD k;exact l h ha b;rw[eY.1 k,xK];omega);exact a.b n J c (xl g d).2 z
 let⟨⟨g,x⟩,l,z⟩:=ay.1 z;let⟨⟨m,i⟩,v,z⟩:=ay.1 z;let h:=(IW v (xl l d).2).2;simp only at z;split at z;exact a.a c h z;let⟨i,n,z⟩:=ay.1 z;split at z;exact a.a c h z;let⟨m,_,z⟩:=ay.1 z;exact a.b a.g J c h z;let⟨⟨n,l,x⟩,m,z⟩:=ay.1 z;let⟨⟨v,k⟩,e,z⟩:=ay.1 z;let i:=(IW e (zg m d).2).2;simp only at z;split at z;exact a.a c i z;next m=>let⟨k,hc,z⟩:=ay.1 z;split at z;exact a.a c i z;cases z;(let ha:fw u {y with f:=y.f.set m<|k.set (ad n) l}:=by let⟨⟨e,g⟩,v,n,f,h,l⟩:=a.g;refine⟨⟨e,g⟩,λj hd hb=>?_,n,f,h,l⟩;rcases asQ (bl hb)with l|l;let⟨e,b⟩:=CD l;exact v e hd b;rw[l,ib];exact v m k hc);exact a.c ha J c i.a
 let⟨⟨n,x⟩,b,z⟩:=ay.1 z;simp only at z;split at z;exact a.a c (IW b d).2 z;let⟨h,e,z⟩:=ay.1 z;exact a.b a.g J c (IW b d).2 z;cases z
end
section
variable{x:a8}{t y s w j:Nat}{z r o:ag}{q u:bV}{p:S Nat}{n:Nat}{m:dx}
def NI(a:bj z)(w j):ad (cu z.a w j).b<=20:=by rw[cu];cases c:(ax z.a w).a[j]? with|none=>exact eL _|some b=>have:=hV (wn a b<|bl c).2.2.2.1.2;show ad b.b<=20;omega
def Mw{d b}(e:ad (cu z.a s j).b<=20)(a:eQ x t y z)(c:Y z.b+1<=x.b)(f:∀s,b=Q s->17<=s):eQ x t y (ga z s j d b):=by
 refine⟨a.e.a J J J J (lQ _) J,a.b,c,λu g=>?_⟩;rcases cB.1 (show u∈_::z.b from g)with rfl|h;exists eL _,by simp only[jw];omega
 exact a.a u h
def eQ.d{h g}(f:eQ x t y z)(j:t<=h)(i:y<=g):eQ x h g z:=⟨f.e,by have:=f.b;omega,f.c,λu k=>⟨by have:=(f.a u k).1;omega,(f.a u k).2⟩⟩
def UR(a:mV x t z q)(d:bj z)(c:Y z.c<=y)(b:lA x z q w j=Q (p,r)):eQ x (t+1) y r:=by rw[lA]at b;split at b;exact a.a c a.h b;next f=>let⟨⟨k,u⟩,e,b⟩:=ay.1 b;cases b;(let h:iB (t+1) u:=by rw[tw]at e;split at e;cases e;have:=a.h;exact⟨by simp only[jw];have:=a.h.1;omega,this.2⟩;cases e);let g:=a.c a.g J c h;refine Mw (NI d w j) g ?_ nofun;rw[tt]at f;let i:¬((Y z.b+1)=x.b):=λy=>f<|iy y;have:=a.f;show Y (u::z.b)+1<=x.b;simp only[de];omega
def OP{a}(b:eQ x t y z)(c:∀p,(a p).f=p.f)(d:∀q,Y (a q).a=Y q.a)(e:∀s i,s<17->z.a[s]?=Q i->i.g=.b->(a i).g=.b\/s≠w):eQ x t y (hN z w a):=by
 let o:∀(j:Nat)k,(z.a.modify w a)[j]?=Q k->∃l,z.a[j]?=Q l/\(k=l\/(k=a l/\w=j)):=λj h g=>by rw[qT]at g;cases f:z.a[j]? with|none=>rw[f]at g;cases g|some r=>rw[f]at g;by_cases y:w=j;simp only[y,jy]at g;cases g;exact⟨r,J,.inr ⟨J,y⟩⟩;simp only[y,gV]at g;cases g;exact⟨r,J,.inl J⟩
 let⟨⟨p,v⟩,l,m,n,g,i⟩:=b.e;refine⟨⟨⟨by show Y (z.a.modify w a)+gj z<=57;rwa[Fz],λj f h=>?_⟩,l,m,n,λj f h=>?_,λj f n h=>?_⟩,b.b,b.c,b.a⟩;obtain⟨k,a,rfl|⟨rfl,_⟩⟩:=o j f h;exact v j f a;rw[c];exact v j k a;obtain⟨c,b,rfl|⟨rfl,_⟩⟩:=o j f h;exact g j f b;rw[d];exact g j c b;obtain⟨u,m,rfl|⟨rfl,y⟩⟩:=o j f h;exact i j f n m;exact(e j u n m<|i j u n m).elim id λd=>aE y.symm d
def apZ(b:mV x t z q)(c:bj z)(a:dP x z q n m=Q (p,r)):eQ x (t+1) (Y z.c) r:=by
 let d:Y z.c<=Y z.c:=bd _;let e:=b.h;unfold dP at a;split at a;exact b.a d e a;split at a;split at a;exact b.a d e a;next o l=>obtain⟨rfl,_⟩:=Yq b.g (Fv _) l;refine b.b ?_ ?_ ?_ e a;exact b.g.a J J J J (by show z.l-_<=z.l;omega) J;rfl;exact d
 split at a;split at a;cases a;exact b.c b.g J d e.a;exact b.a d e a;cases a;split at a;next k=>exact b.b b.g J d (BR k e).2 a
 cases a;cases a;split at a;let⟨⟨l,u⟩,f,a⟩:=ay.1 a;simp only at a;split at a;exact b.a d (BR f e).2 a;let⟨i,_,a⟩:=ay.1 a;let⟨v,_,a⟩:=ay.1 a;exact b.b b.g J d (BR f e).2 a;let⟨⟨v,u⟩,h,a⟩:=ay.1 a;let⟨⟨f,k⟩,j,a⟩:=ay.1 a;let g:=(BR j (mG h e).2.2).2;simp only at a;split at a;exact b.a d g a;let⟨j,_,a⟩:=ay.1 a;split at a;cases a;exact b.c (b.g.a J J J J (lQ _) J) J d g.a;cases a;let⟨w,_,a⟩:=ay.1 a;let⟨v,_,a⟩:=ay.1 a;exact b.b b.g J d e a;let⟨⟨v,u⟩,i,a⟩:=ay.1 a;let⟨w,_,a⟩:=ay.1 a;split at a;cases a;exact OP (b.c b.g J d (mG i e).2.2.a) (λf=>rfl) (λg=>ib ..)<|λs h _ _ y=>.inl y;cases a;cases a;split at a;let⟨v,_,a⟩:=ay.1 a;split at a;exact b.a d e a;split at a;exact UR b c d a;cases a;cases a;exact UR b c d a;cases a
end
section
variable{w:a8}{u x t y j:Nat}{z r:ag}{s:S Nat}
def ahF(a):ax (dn z t a).a y=ax z.a y:=by unfold ax dn hN;simp only[qT];cases z.a[y]? with|none=>rfl|some c=>by_cases b:t=y<;>simp[b]
def Pe{b c d}(a:eQ w u x z):eQ w u (x+1) (bX z b c d):=⟨a.e.a J J J J (lQ _) J,by have:=a.b;show Y (z.c++[_])<=_;simp only[bJ,fB];omega,a.c,a.a⟩
def HV{b}(a:eQ w u x z):eQ w u x (jc z b).2:=⟨a.e.a J J J J (lQ _) J,a.b,a.c,a.a⟩
def YI{b}(c:eQ w u x z)(a:b=.b\/eO z.a y≠.b):eQ w u x (dn z y b):=by refine OP c (λ_=>rfl) (λ_=>rfl) λt e _ d f=>?_;rcases a with rfl|a;exact .inl J;refine .inr λx=>a ?_;subst x;rw[eO];rwa[d]
def akQ(a:eO z.a t≠.b):eO z.a (eX z.a t)≠.b:=by rw[eX];cases b:((bY z.a t).filter λy=>cj<|eO z.a y≠.b).getLast? with|none=>exact a|some y=>exact ej (pq.1<|aaH b).2
def VM(b:eQ w u x z)(a:eO z.a y≠.b\/17<=y):eQ w u (x+1) (eW z y):=by refine Pe<|OP b (λ_=>rfl) (λ_=>rfl) λt d e c f=>?_;rcases a with a|a;refine .inr λx=>a ?_;subst x;rw[eO];rwa[c];exact .inr L
def aoI(c:∀y j,ad (cu z.a y j).b<=20)(a:eQ w u x z)(b:17<=y):eQ w u (x+2) (gb w z y).2:=by rw[gb];simp only;let d:eQ w u (x+1) (bX (dn z y .b) 3 0<|bW z.a y):=Pe<|YI a<|.inl J;split;exact Pe d;next e _=>split;exact HV<|VM d<|.inr b;next f=>refine(Mw ?_ d ?_ λt x=>by cases x;exact b).d (bd _) L;(have:cu (bX (dn z y .b) 3 0<|bW z.a y).a y e=cu z.a y e:=by unfold cu;rw[show ax (bX (dn z y .b) 3 0<|bW z.a y).a y=ax z.a y from ahF .b]);rw[this];exact c y e;let g:¬(Y z.b=w.b):=λx=>f<|iy x;have:=a.c;show Y z.b+1<=w.b;omega
def O0(b:bj z)(c:dF z t)(a:eQ w u x z):eQ w u (x+2) (dO w z t).2.2:=by rw[dO];split;exact a.d (bd _) L;next n=>have k:=akQ n;(have m:17<=eX z.a t:=by refine aaR λi=>k ?_;let⟨l,_,h,_⟩:=b.a.b _ i;rw[eO];rw[h];exact a.e.b _ l i h);simp only;split;exact(HV a).d (bd _) L;cases d:je z (ax z.a<|eX z.a t)with|none=>exact(HV<|YI a<|.inr k).d (bd _) L|some e=>(have f:e.a=z.a/\eQ w u x e:=by rw[je]at d;split at d;cases d;split at d;cases d;exact⟨J,a.e.a J J J J (lQ _) J,a.b,a.c,a.a⟩;cases d);(have g:eQ w u (x+2) (gb w e<|eX z.a t).2:=by refine aoI (λy j=>?_) f.2 m;rw[f.1];exact NI b y j);simp only;generalize gb w e (eX z.a t)=o at g;let⟨s,r⟩:=o;cases s<;>exact g
end
section
variable{z:a8}{w r q l j p:Nat}{y u:ag}{x t:bV}{o:S Nat}{s:c3}{m:Nat}{n:cK}
def wB(z:a8)(w r:Nat):eA->Prop|.a=>True|.c u=>eQ z w r u|.b _ u=>eQ z w r u
def wB.oq{b:tq}(c:∀o u,b=Q (o,u)->eQ z w r u):wB z w r (eA.d b):=by cases b with|none=>trivial|some d=>exact c d.1 d.2 J
def Xw(a:mV z w y x)(b:cr y x n s)(c:y.m=z.a)(d:eM s.b.toNat=Q m):wB z (w+1) (y.c.length+44) (mS z y x s m):=by have e:=Dh b.a b.c.b b.h b.c.c c d;obtain⟨g,hc⟩:=fw.d a.g b.a c s.a;unfold mS;simp only;generalize gt z y x m s.a=ho at e g hc;obtain⟨i,f⟩:=ho;simp only at e g hc⊢;have hb:mV z w f x:=⟨g,e.c▸a.f,e.c▸a.e,a.h⟩;have hf:∀o u,dP z f x s.b.toNat i=Q (o,u)->eQ z (w+1) (y.c.length+44) u:=λo u hj=>(apZ hb e.a hj).d (bd _) L;cases v:(if qj s.b.toNat=K then jD i else Z)with|none=>exact wB.oq hf|some q=>(have h:jD i=Q q:=by split at v;(·exact v);·cases v);(have hk:dF f q:=by have ha:=e.d.1;cases i with|a hp=>cases h|b l=>cases h;exact ha.1|c l j=>cases h;obtain⟨hi,_,_,k,_,r,_⟩:=ha;exact k.b e.a.a r|d l w=>cases h;obtain⟨hi,_,k,_,r,_⟩:=ha;exact k.b e.a.a r);obtain⟨hg,hm⟩:=e.a.b (y:=aV f x) J J J J J;have hd:=hk.a hm.tofj e.a.a;have he:=ww (w:=z) hg hd;have t:=O0 hg hd<|hb.c g J (bd _) a.h.a;simp only;generalize dO z (aV f x) q=hn at he t;obtain⟨hl,hh,hq⟩:=hn;cases hl with|some p=>exact t.d (bd _) L|none=>cases hh with|true=>obtain⟨rfl,_⟩:=he;exact wB.oq hf|false=>exact t.d (bd _) L
def aic(a:mV z w y x)(g:Y z.c<=2000000)(e:bj y)(c:y.m=z.a)(d:eZ y x n)(b:kR y x n x.c)(h:x.d=x.c+1)(f:fh y y.b n.a):wB z (w+1) (Y y.c+44) (ii z y x):=by rw[ii];cases t:x.e with|some p=>exact a.c a.g J L ⟨by show Y x.a<=w+1;have:=a.h.1;omega,a.h.2⟩|none=>(let r:cu y.a x.g x.h=n:=by rw[cu];rw[d.b];rfl);let⟨s,k⟩:=a1 b.1;simp only[r,k];let i:cr y x n s:=⟨e,d,b,h,f,k,t⟩;let l:wB z (w+1) (Y y.c+44) (eA.d<|cf z y x (ad s.b) s.c):=wB.oq λo u q=>(am8 a g q).d (bd _) L;cases j:eM (ad s.b)with|none=>exact l|some m=>simp only;split;split;trivial;exact l;exact Xw a i c j;exact Xw a i c j
def amv(a:eQ z w r y):eQ z w r (eN y p).2:=by rw[eN];split;exact a;exact HV a
def Zn:∀(e),(∀t∈e,iB (w+1) t)->Y e<=z.b->fw z y->Y y.c<=r->eQ z (w+1) (r+1) (hO y p e)|[],_,_,n,b=>⟨n.a J J J J (lQ _) J,by show Y y.c<=_;omega,eL _,nofun⟩|x::a,b,g,d,h=>by let e:Y a+1<=z.b:=g;(let i:∀f,iB (w+1) f->∀t∈f::a,iB (w+1) t:=λj c t o=>by rcases cB.1 o with rfl|s;exact c;exact b t<|.tail _ s);rw[hO];split;(next k l=>exists d.a J J J J (lQ _) J,by show Y y.c<=_;omega,g;exact i {x with d:=(ad k.b),a:=[.c p]} ⟨by show 1<=w+1;omega,(b x<|.head _).2⟩);split;exact Zn a (λt u=>b t<|.tail _ u) L d h;next q f=>let m:=(b x<|.head _).2.2 q f;let l:eQ z (w+1) r {y with b:=a}:=⟨d.a J J J J (lQ _) J,h,by show Y a<=_;omega,λt v=>b t<|.tail _ v⟩;let c:eQ z (w+1) (r+1) (eN (eW {y with b:=a} q) p).2:=amv<|VM l<|.inr m;let g:(eN (eW {y with b:=a} q) p).2.b=a:=Lv;cases a with|nil=>exact⟨c.e.a J J J J (lQ _) J,c.b,c.c,c.a⟩|cons t j=>refine⟨c.e.a J J J J (lQ _) J,c.b,?_,λi a=>?_⟩;show Y (_::j)<=_;simp only[de];simp only[de]at e;omega;rcases cB.1 (show i∈_::j from a)with rfl|d;exact b t<|.tail _<|.head _;exact b i<|.tail _<|.tail _ d
end
section
variable{s:a8}{i n p j t l:Nat}{k:Int}{x w:ag}{y z:bV}{r:S Nat}{u:c3}{m:Nat}{o:cK}{v:ih}{q:dx}
def lg(a:ep x z v=Q (r,w)):r=Z:=by cases a;rfl
def H6{a}(b:uP x z a k=Q (r,w)):r=Z:=by cases b;rfl
def mw{b}(a:fJ x z b=Q (r,w)):w.b≠[]:=by cases a;exact nofun
def am9(a:cf s x y l k=Q (Q t,w)):w.b≠[]:=by unfold cf at a;split at a;cases a;cases lg a;let⟨n,_,a⟩:=ay.1 a;cases lg a;let⟨⟨o,z⟩,c,a⟩:=ay.1 a;simp only at a;split at a<;>cases a;let⟨⟨p,z⟩,d,a⟩:=b3.1 a;cases a;let⟨q,_,a⟩:=ay.1 a;cases lg a;let⟨⟨b,n,z⟩,e,a⟩:=ay.1 a;cases lg a;let⟨⟨c,o,z⟩,f,a⟩:=ay.1 a;cases lg a;let⟨⟨d,p,z⟩,g,a⟩:=ay.1 a;cases lg a;let⟨⟨e,q,z⟩,h,a⟩:=ay.1 a;simp only at a;split at a;exact mw a;cases lg a;cases H6 a;let⟨⟨f,z⟩,i,a⟩:=ay.1 a;cases H6 a;let⟨⟨g,r,z⟩,j,a⟩:=ay.1 a;cases H6 a;let⟨⟨r,z⟩,m,a⟩:=ay.1 a;cases H6 a;cases lg a;cases a;let⟨⟨v,z⟩,n,a⟩:=ay.1 a;simp only at a;split at a;cases lg a;cases a;let⟨⟨t,z⟩,o,a⟩:=ay.1 a;simp only at a;split at a;exact mw a;cases a;exact nofun;cases a;let⟨⟨b,z⟩,p,a⟩:=ay.1 a;cases lg a;let⟨⟨h,z⟩,q,a⟩:=ay.1 a;cases a;split at a;cases lg a;cases lg a;let⟨⟨i,z⟩,r,a⟩:=ay.1 a;simp only at a;split at a;exact mw a;split at a;exact mw a;cases lg a;let⟨⟨u,z⟩,v,a⟩:=ay.1 a;let⟨⟨t,v⟩,d,a⟩:=ay.1 a;simp only at a;split at a;exact mw a;let⟨i,f,a⟩:=ay.1 a;split at a;exact mw a;let⟨j,_,a⟩:=ay.1 a;cases lg a;let⟨⟨u,m,z⟩,b,a⟩:=ay.1 a;let⟨⟨t,b⟩,e,a⟩:=ay.1 a;simp only at a;split at a;exact mw a;let⟨j,g,a⟩:=ay.1 a;split at a;exact mw a;cases a;let⟨⟨t,z⟩,c,a⟩:=ay.1 a;simp only at a;split at a;exact mw a;let⟨m,h,a⟩:=ay.1 a;cases lg a;cases a
def US(a:lA s x y p j=Q (Q t,w)):w.b≠[]:=by rw[lA]at a;split at a;exact mw a;let⟨_,_,a⟩:=ay.1 a;cases a
def ap0(a:dP s x y l q=Q (Q t,w)):w.b≠[]:=by unfold dP at a;split at a;exact mw a;split at a;split at a;exact mw a;cases lg a;split at a;split at a;cases a;exact mw a;cases a;split at a;cases lg a;cases a;cases a;split at a;let⟨⟨t,z⟩,e,a⟩:=ay.1 a;simp only at a;split at a;exact mw a;let⟨b,_,a⟩:=ay.1 a;let⟨v,_,a⟩:=ay.1 a;cases lg a;let⟨⟨v,z⟩,f,a⟩:=ay.1 a;let⟨⟨t,d⟩,h,a⟩:=ay.1 a;simp only at a;split at a;exact mw a;let⟨c,_,a⟩:=ay.1 a;split at a<;>cases a;let⟨p,_,a⟩:=ay.1 a;let⟨v,_,a⟩:=ay.1 a;cases lg a;let⟨⟨v,z⟩,g,a⟩:=ay.1 a;let⟨p,_,a⟩:=ay.1 a;split at a<;>cases a;cases a;split at a;let⟨v,_,a⟩:=ay.1 a;split at a;exact mw a;split at a;exact US a;cases a;cases a;exact US a;cases a
def Xx(b:cr x y o u)(c:x.m=s.a)(d:eM (ad u.b)=Q m)(a:mS s x y u m=.b (Q t) w):w.b≠[]:=by
 have e:=Dh b.a b.c.b b.h b.c.c c d;unfold mS at a;simp only at a;generalize gt s x y m u.a=v at e a;let⟨q,g⟩:=v;simp only at e a;have z:∀{f},eA.d (dP s f y (ad u.b) q)=.b (Q t) w->w.b≠[]:=λ{g}a=>by cases k:dP s g y (ad u.b) q with|none=>rw[k]at a;cases a|some d=>rw[k]at a;let⟨r,h⟩:=d;cases a;exact ap0 k
 cases f:(if qj (ad u.b)=K then jD q else Z)with|none=>rw[f]at a;exact z a|some n=>rw[f]at a;(have h:jD q=Q n:=by split at f;exact f;cases f);(have k:dF g n:=by have l:=e.d.1;cases q with|a c=>cases h|b p=>cases h;exact l.1|c p j=>cases h;let⟨v,_,_,c,_,f,_⟩:=l;exact c.b e.a.a f|d p i=>cases h;let⟨b,_,d,_,h,_⟩:=l;exact d.b e.a.a h);let⟨l,b⟩:=e.a.b (y:=aV g y) J J J J J;have v:=ww (w:=s) l<|k.a b.tofj e.a.a;simp only at a;generalize dO s (aV g y) n=c at v a;let⟨e,b,g⟩:=c;cases e with|some t=>cases a;rw[v.2.2.2];exact nofun|none=>cases b with|true=>exact z a|false=>cases a
def aid(e:bj x)(c:x.m=s.a)(d:eZ x y o)(b:kR x y o y.c)(g:y.d=y.c+1)(f:fh x x.b o.a)(a:ii s x y=.b (Q t) w):w.b≠[]:=by rw[ii]at a;cases j:y.e with|some t=>rw[j]at a;cases a;exact nofun|none=>(let p:cu x.a y.g y.h=o:=by rw[cu];rw[d.b];rfl);let⟨u,l⟩:=a1 b.1;simp only[j,p,l]at a;let k:cr x y o u:=⟨e,d,b,g,f,l,j⟩;(let n:eA.d (cf s x y (ad u.b) u.c)=.b (Q t) w->w.b≠[]:=λa=>by cases i:cf s x y (ad u.b) u.c with|none=>rw[i]at a;cases a|some q=>rw[i]at a;let⟨r,v⟩:=q;cases a;exact am9 i);cases h:eM (ad u.b)with|none=>rw[h]at a;exact n a|some m=>simp only[h]at a;split at a;split at a;cases a;exact n a;exact Xx k c h a;exact Xx k c h a
end
structure Mc(g:a8)(f)(e):Prop where
 c:bj e
 b:jb e e.b
 a:e.m=g.a
 d:eQ g f (50*f+200) e
section
variable{y:a8}{s:U}{u:F}{z:ag}{t:Nat}{w:bV}{x:W bV}
def ao6(c:aN y s b1 u z)(a:Mc y t z)(g:t<=9000)(d:lH y)(f:Y u.f+1300000*bH z<=80000000)(e:z.e<y.d)(b:z.b=w::x):∃h,lW y z=Q h/\Mc y (t+1) h/\RK z h/\∀o,D s T 353 [.a u.a 0] o u.nt (λr _ n=>r=.c []/\G0 y s u z h n) H:=by
 have k:=a.b;rw[b]at k;let⟨n,g,l,q,j⟩:=k;let⟨j,i⟩:=a.c.b (y:={z with b:=x}) J J J J J;let r:={w with c:=w.d,d:=w.d+1};have k:=(⟨g.b,g.d,g.g⟩:eZ z r n).a i.tofj a.c.a;have m:=kR.a i.tofj a.c.a g.c ⟨l.1,l.2⟩;have v:=fh.a i.tofj a.c.a q;have p:=a.d.a w (by rw[b];exact .head _);have l:Y x+1<=y.b:=by have:=a.d.c;rw[b]at this;exact this
 have i:mV y t {z with b:=x} r:=⟨a.d.e.a J J J J (lQ _) J,l,λo n=>a.d.a o (by rw[b];exact .tail _ n),⟨p.1,p.2⟩⟩;have q:=aic i d.a j a.a k m J v;have g:=a.d.b;have i:Y ({z with b:=x}).c=Y z.c:=rfl;have ha:=λl h=>aid (t:=l) (w:=h) j a.a k m J v;have p:Ue y s u z:=⟨c,a.c,a.b,a.d.e,d,a.a,L,f,by have:=a.d.c;have:=d.b;omega,λo n=>⟨by have:=(a.d.a o n).1;omega,(a.d.a o n).2.1⟩,e⟩;let⟨h,k,v⟩:=S7 (x:=y) a.c a.a a.b (by rw[b];exact nofun);let⟨e,g,f⟩:=ao5 p b λe j f=>by have m:=f;rw[m]at q;have i:=q;refine⟨λo n=>by have:=(i.a o n).1;omega,by have:=i.c;have:=d.b;omega,by have:=i.b;omega,λl p=>ha l j (by rw[m,p])⟩
 rw[k]at g;cases g;refine⟨h,k,⟨v.a,v.d,v.b.e.trans a.a,?_⟩,v,f⟩;rw[lW]at k;rw[b]at k;simp only at k;change(match ii y {z with b:=x} r with|.a=>Z|.c h=>Q {h with b:=h.b.modify (Y h.b-Y (w::x)) λc=>{c with d:=c.c}}|.b e h=>Q (match e with|Q l=>tx {h with e:=h.e+1} l|Z=>{h with e:=h.e+1}))=Q h at k;generalize ii y {z with b:=x} r=d at q k;cases d with|a=>cases k|c j=>have i:=q;cases k;refine⟨i.e.a J J J J (lQ _) J,by have:=i.b;show Y j.c<=_;omega,by show Y (j.b.modify _ _)<=_;rw[Fz];exact i.c,λo n=>?_⟩;let⟨c,m⟩:=CD<|show o∈j.b.modify _ _ from n;rw[qT]at m;(cases a:j.b[c]? with|none=>rw[a]at m;cases m|some h=>rw[a]at m;have b:=i.a h<|bl a;by_cases p:Y j.b-Y (w::x)=c;simp only[p,jy]at m;cases m;exact b;simp only[p,gV]at m;cases m;exact b)|b e j=>have i:=q;cases k;cases e with|none=>exact⟨i.e.a J J J J (lQ _) J,by have:=i.b;show Y j.c<=_;omega,i.c,i.a⟩|some l=>have:=Zn (z:=y) (w:=t) (r:=Y z.c+44) (y:={j with e:=j.e+1}) (p:=l) j.b i.a i.c (i.e.a J J J J (lQ _) J) i.b;exact this.d (bd _) L
end
def tl{b}(a:zL b):1<=Rows.uptoBulk a:=by cases a with|lit c=>cases c<;>simp[Rows.uptoBulk]|nil=>simp[Rows.uptoBulk]|ptr a=>simp[Rows.uptoBulk]|slice d h=>simp[Rows.uptoBulk]|agg g=>simp[Rows.uptoBulk]|iface i a=>simp[Rows.uptoBulk]|map e=>simp[Rows.uptoBulk]|held f=>simp[Rows.uptoBulk]
def acv{d b}{a:W (zL d)}(c:b∈a):Rows.uptoBulk b<=Rows.uptoBulkAll a:=by induction a with|nil=>cases c|cons i h g=>rw[Rows.uptoBulkAll];cases cB.1 c with|inl e=>subst e;omega|inr f=>have:=g f;omega
def KP{b c:Type}(a):∀(e:W c)(d:W (zL b)),Y e=Y d->(∀(i:Nat)f g,e[i]?=Q f->d[i]?=Q g->a f<=Rows.uptoBulk g)->(e.map a).sum<=Rows.uptoBulkAll d|[],[],_,_=>az|[],_::_,o,_=>by simp at o|_::_,[],p,_=>by simp at p|j::u,l::n,q,h=>by let v:=h 0 j l J J;have:=KP a u n (by simpa using q)<|λt k m s r=>h (t+1) k m (by simpa using s) (by simpa using r);rw[c4,asY,Rows.uptoBulkAll];omega
def Ra{a:Type}:∀b:W a,(b.map λ_=>1).sum=Y b|[]=>rfl|_::c=>by rw[c4,asY,Ra c,de];omega
def arz{e:Type}{c d:e}{b}(a:[c][b]?=Q d):b=0/\d=c:=by match b,a with|0,a=>exact⟨J,(cx a).symm⟩
def lO(a:aD)(b:fV):S (W<|fV×Nat):=match a.underlying b with|Q (.struct d)=>Q (d.toList.map λc=>(c.type,c.offset))|_=>Z
section
variable{x:Type}{y:fV×bh->x}{z:ap}
abbrev gM(y:fV×bh->x)(z:ap)(b:Nat)(c:fV)(a:W bh)(d:zL x×W CM):Prop:=DataW.trod y T z 0 (λ_=>K) K b c a=Q d
def ul{d b g c e}(a:lO T d=Q b)(f:gM y z g d c e):∃(o:W (zL x×W CM))(g:Nat),e.1=.agg (o.map (·.1))/\Y c=T.cellsOf d/\Y o=Y b/\∀(s:Nat)n t,b[s]?=Q (n,t)->∃v,o[s]?=Q v/\gM y z g n ((c.drop t).take<|T.cellsOf n) v:=by
 rw[lO]at a;split at a;rename_i j w;cases a;obtain⟨u,e,-,rfl,b,r,d⟩:=DataW.trod_struct w f;refine⟨u,e,J,b,by rw[r,bk,pt],λi k f h=>?_⟩;rw[cv]at h;cases m:(aG j)[i]? with|none=>rw[m]at h;cases h|some p=>rw[m]at h;cases h;let l:j[i]?=Q p:=FJ▸m;let q:=d i p l;(let c:i<Y u:=by rw[r];rcases dy i (aj j)with k|k;exact k;rw[uv k]at l;cases l);rw[e7 c]at q⊢;exact⟨_,J,q⟩
 cases a
def pV{b f a c}(e:T.underlying b=Q (.int .i64))(d:gM y z f b a c):∃h,a=[.int .i64 h]/\lP h/\Rows.uptoBulk c.1=1:=by obtain⟨i,rfl,rfl,g⟩:=DataW.trod_int e d;refine⟨i,J,?_,J⟩;simp only[Lit.wf,cQ,decide_eq_true_eq]at g;exact⟨g.1,g.2⟩
def qN{b f a c}(e:T.underlying b=Q .string)(d:gM y z f b a c):∃g,a=[.string g]/\Rows.uptoBulk c.1=bf g+1:=by obtain⟨h,rfl,rfl,-⟩:=DataW.trod_string e d;exact⟨h,J,by rw[Rows.uptoBulk];rw[pt];rfl⟩
def Z5{b f a c}(e:T.underlying b=Q .bool)(d:gM y z f b a c):∃g,a=[.bool g]/\Rows.uptoBulk c.1=1:=by obtain⟨h,rfl,rfl⟩:=DataW.trod_bool e d;exact⟨h,J,J⟩
def arP{g e c}{d:g->Prop}{b k a p h f}(o:T.underlying k=Q (.slice a))(i:T.cellsOf a=e)(n:0<e)(q:∀u s t,gM y z u a s t->Rows.uptoBulk t.1<=1048576->∃r,c z s r/\d r/\b r<=Rows.uptoBulk t.1)(l:gM y z p k h f)(m:Rows.uptoBulk f.1<=1048576):∃v s,h=[v]/\adg e c z v s/\(∀r∈s,d r)/\(s.map b).sum+1<=Rows.uptoBulk f.1:=by
 rcases aa7 o l with⟨rfl,rfl⟩|⟨t,u,ha,w,hc,s,x,rfl,-,hb,-,k,rfl,r⟩;exact⟨_,[],J,⟨Z,0,J,⟨az,az⟩,λl f h=>by simp at h⟩,az,by simp[Rows.uptoBulk]⟩;have x:u<=w:=by rw[k];split<;>omega
 rw[Rows.uptoBulk]at m⊢;have m:∀o,o<u->∃f,∃h,z.cells? 0 (t.add<|o*T.cellsOf a) (T.cellsOf a)=Q h/\c z h f/\d f/\b f<=Rows.uptoBulk (s o):=λp o=>by let⟨f,k,l⟩:=r p L;have r:Rows.uptoBulk (s p)<=Rows.uptoBulkAll ((fX u).map s):=acv<|jx<|pr.2 o;let⟨w,o,r,x⟩:=q hc f _ l (by show Rows.uptoBulk (s p)<=_;omega);exact⟨w,f,k,o,r,x⟩
 have o:∃p:W g,Y p=u/\∀q w,p[q]?=Q w->∃k,z.cells? 0 (t.add<|q*T.cellsOf a) (T.cellsOf a)=Q k/\c z k w/\d w/\b w<=Rows.uptoBulk (s q):=have:∀j,j<=u->∃q:W g,Y q=j/\∀w x,q[w]?=Q x->∃l,z.cells? 0 (t.add<|w*T.cellsOf a) (T.cellsOf a)=Q l/\c z l x/\d x/\b x<=Rows.uptoBulk (s w):=(by intro j;induction j with|zero=>intro _;exact⟨[],J,λw q d=>by simp at d⟩|succ j p=>intro d;let⟨d,g,l⟩:=p L;let⟨f,q⟩:=m j L;refine⟨d++[f],by simp[g],λx h c=>?_⟩;rcases dy x (Y d)with g|g;rw[gh g]at c;exact l x h c;rw[md g]at c;obtain⟨d,rfl⟩:=arz c;(have:x=j:=L);subst this;exact q);this u<|bd _;let⟨r,u,d⟩:=o;subst u;have q:(r.map b).sum<=Rows.uptoBulkAll ((fX<|Y r).map s):=KP b r _ az (λu x g l k=>by obtain⟨b,-,-,-,g⟩:=d u x l;rw[cv]at k;(have c:u<Y r:=by rcases dy u (Y r)with b|b;exact b;rw[ix b]at l;cases l);rw[sd c]at k;cases k;exact g);have p:Y r<=Rows.uptoBulkAll ((fX<|Y r).map s):=by have k:=KP (λ_=>1) r ((fX<|Y r).map s) az<|λu c b _ _=>tl b;have a:=Ra r;omega
 refine⟨_,r,J,⟨Q t,ha,J,⟨L,hb⟩,λo a m=>?_⟩,λa s=>?_,L⟩;obtain⟨u,c,p,-,-⟩:=d o a m;rw[i]at c;obtain⟨-,l,w⟩:=aaf c;have f:0<Y r:=by rcases dy o (Y r)with h|c;omega;rw[ix c]at m;cases m
 obtain⟨b,m⟩:∃b,r[0]?=Q b:=⟨_,e7 f⟩;obtain⟨f,g,-,-,-⟩:=d 0 b m;rw[i]at g;obtain⟨-,m,i⟩:=aaf g;have h:=i 0 n;rw[P7,aa6,aa6,e7 L]at h;have i:=World.cell?_spot h;have m:=World.block_lt_of_cell? z t h;let⟨n,b,c⟩:=t;dsimp only at i m;subst i;refine⟨n,b,u,J,m,p,λj t i=>?_⟩;have t:j<e:=by rcases dy j e with n|n;exact n;rw[ix L]at i;cases i
 have:=w j t;rwa[sg,sg,i]at this;let⟨n,t⟩:=iI.1 s;obtain⟨i,-,-,e,-⟩:=d n a t;exact e
def Px{b c d}(a:z.cell? ⟨b,c,Z⟩=Q d):∃e j g,z.heap[b]?=Q (.cells e j g)/\e[c]?=Q d:=by rw[World.cell?]at a;split at a;rename_i f k h i;exact⟨f,k,h,i,by simpa using a⟩;cases a
def vF{r b c}{f:r->Prop}{n m a p g d}(l:T.underlying m=Q (.slice a))(i:T.cellsOf a=b)(e:0<b)(k:∀u s,c u s->Y u=b)(q:∀u w t,gM y z u a w t->Rows.uptoBulk t.1<=1048576->∃s,c (w.map<|ed z) s/\f s/\n s<=Rows.uptoBulk t.1)(h:gM y z p m g d)(o:Rows.uptoBulk d.1<=1048576):∃v m,g=[v]/\c7 (iw z) b c (ed z v) m/\(∀p∈m,f p)/\(m.map n).sum+1<=Rows.uptoBulk d.1/\Y m<=1048576:=by obtain⟨v,u,rfl,r,t,g⟩:=arP (c:=λ_ n m=>c (n.map<|ed z) m) l i e q h o;obtain⟨q,s,rfl,⟨f,o⟩,p⟩:=r.a;refine⟨_,u,J,?_,t,g,f⟩;cases f:u with|nil=>refine⟨[],.inl ⟨J,q,s,?_⟩,J,λg s d w=>by simp at w⟩;unfold ed;split;(next a=>cases a);rfl|cons n ha=>rw[<-f];let d:0<Y u:=f▸aaT _;obtain⟨d,w,g,rfl,q,o,m⟩:=p 0 n (by rw[f];rfl);(let t:Y g=b:=by have:=k _ _ o;rwa[bk]at this);obtain⟨o,r⟩:∃t,g[0]?=Q t:=⟨_,e7 L⟩;obtain⟨t,hb,q,g,-⟩:=Px<|m 0 _ r;(let o:s<=aj t:=by rcases aa7 l h with⟨a,_⟩|⟨hd,hg,he,m,hh,r,hc,a,-,hf,-,n,-,x⟩;cases a;let a:=Fx a;cases a.1;(let h:m=s:=by rw[n];rfl);(let n:0<s:=L);obtain⟨h,l,-⟩:=x (s-1) L;rw[i]at l;obtain⟨-,r,x⟩:=aaf l;let n:=x 0 e;rw[sg,sg,e7 L]at n;let⟨l,r,m,x,i⟩:=Px n;rw[g]at x;cases x;let l:=(uw.1 i).1;let i:s-1<=(s-1)*b:=FC _ e;omega);(let h:ed z (.slice (Q ⟨d,w,Z⟩) (Y u) s)=.d d w (Y u) (aj t-s):=by rw[f];show ed z (.slice (Q ⟨d,w,Z⟩) (Y ha+1) s)=_;rw[ed];simp only[g,aC o];rfl);rw[h];(let f:∀h i,u[h]?=Q i->∃e:W bh,Y e=b/\c (e.map<|ed z) i/\aR (t.toList.map<|ed z) (w+h*b) b=e.map (ed z):=λh i e=>by obtain⟨x,m,c,a,-,o,l⟩:=p h i e;cases a;(let a:Y c=b:=by have:=k _ _ o;rwa[bk]at this);refine⟨c,a,o,?_⟩;rw[aR];rw[<-List.map_drop,<-List.map_take];refine b9 (List.map<|ed z)<|qR λj=>?_;rcases dy j b with r|r;rw[asF r,xI,FJ];obtain⟨h,e⟩:∃h,c[j]?=Q h:=⟨_,e7 L⟩;let⟨p,k,i,a,c⟩:=Px<|l j h e;rw[g]at a;cases a;rw[e,c];rw[ix (by rw[jw];omega),ix L]);refine⟨(fX<|Y u).map λk=>aR (t.toList.map<|ed z) (w+k*b) b,.inr ⟨d,w,aj t-s,.k (t.toList.map<|ed z) hb q,t.toList.map<|ed z,az,Jq.2 (by rw[sN];rw[g]),J,?_,λa c x=>?_⟩,az,λa u c x l=>?_⟩;show aj t-s+_<=Y (t.toList.map<|ed z);simp only[bk,aaE,pt];omega;rw[cv]at x;obtain⟨b,k,rfl⟩:=b3.1 x;let d:=bc.1 k;let⟨b,k⟩:=d;rw[aaE]at b;rw[asH]at k;subst k;obtain⟨k,s,-,d⟩:=f a _<|e7 b;exact⟨by rwa[d,bk],J⟩;rw[cv]at x;obtain⟨e,u,rfl⟩:=b3.1 x;let⟨b,q⟩:=bc.1 u;rw[asH]at q;subst q;obtain⟨p,-,w,b⟩:=f a c l;rwa[b]
def Fi{f c d b v}{a:W f}(e:c7 c d (λn p=>n=b p) v a):aK c d v (a.map b):=by
 let⟨k,q,r,o⟩:=e;have:k=a.map b:=by refine qR λg=>?_;rw[cv];rcases dy g (Y a)with j|j;obtain⟨h,l⟩:∃h,a[g]?=Q h:=⟨_,e7 j⟩;obtain⟨i,m⟩:∃i,k[g]?=Q i:=⟨_,e7 L⟩;rw[m,l,o g i h m l];rfl;rw[ix j,ix L];rfl
 rwa[<-this]
end
structure lE(n)(q)(m:F)(p)(l)(j)(o):Prop where
 k:aN n q b1 l j
 i:Mc n o j
 b:o+bH j<=j.e+200
 e:Y l.f+1300000*bH j<=Y m.f+1300000*bH p
 f:m.nw.a l.nw
 h:∀r∈m.nu,r∈l.nu
 a:l.a=m.a
 c:j.e<=n.d
 d:fj p j
def AD(b:a8)(d:U)(e:F)(h:ag)(g:Int×ac×ag)(a:Int)(f:ac)(c:U):Prop:=∃j i,g=(a,f,j)/\aN b d b1 i j/\i.a=e.a/\Y j.c<=50*b.d+11000/\(a=1->j.b=[]/\∃m,lE b d e h i j m)/\((∀l,am l c=am l i.nt)\/(a=4/\∀k,am k c+db k (i.nl,.d 1 1)=am k i.nt+db k (i.nl,.d 1 0)))
section
variable{u:a8}{t:U}{x z:F}{s w:ag}{r p y:Nat}{q:Int×ac×ag}
def lE.g(j:lE u t x s z w r):Y w.c<=50*u.d+11000:=by have:=j.i.d.b;have:=j.b;have:=j.c;omega
def aeP(u:a8)(t:U)(x:F)(s:ag)(q:Int×ac×ag)(d p:Nat)(c:W Nat)(a:bK)(b:U):Prop:=match d with|0=>(∃z w r n o,lE u t x s z w r/\w.b=n::o/\w.e<u.d/\(lW u w).bind (fQ u p)=Q q/\match c with|[d,v,h,f,l,j]=>∀e,am e ([(x.a,P.a [a.i,a.n,a.k,a.o,a.na,a.f,a.m,a.nb,a.l,.g a.a,a.g,.d d 0 (v+1) 0,.a h 0,V a.c,V a.h,a.b,a.e]),(h,.a [B l,B j,.h f]),(f,.d 1 0)]++b)=am e z.nt|_=>False)|_=>match c with|[c,y,i,g,m,k]=>AD u t x s q 4 bU ([(x.a,P.a [a.i,a.n,a.k,a.o,a.na,a.f,a.m,a.nb,a.l,.g a.a,a.g,.d c 0 (y+1) 0,.a i 0,V a.c,V a.h,a.b,a.e]),(i,.a [B m,B k,.h g]),(g,.d 1 0)]++b)|_=>False
def aeO(u:a8)(t:U)(x:F)(s:ag)(q:Int×ac×ag)(_:Nat)(a:bK)(b:U):Prop:=AD u t x s q 1 bU<|(x.a,a.nd)::b
def aeQ(u:a8)(t:U)(x:F)(s:ag)(q:Int×ac×ag)(_ d:Nat)(r:bI)(e c:X)(a:bK)(b:U):Prop:=AD u t x s q 2 r.a<|(x.a,a.nd)::(d,.a [.a r.n 0,c])::(r.n,r.m e)::b
def F.no(z:F):U:=(z.nv.a,.c z.d)::(z.ng,z.nf)::(z.nb,z.na)::(z.k,z.nc)::(z.m,z.l)::(z.g++(z.n++(z.e++(an z.nd++(an z.ni++z.nu)))))
def ahU(z:F)(a:Nat×P):am a z.nt=db a (z.a,z.nv.nd)+am a z.no:=by rw[ce];rw[F.no];simp only[bb,ba];omega
def VP(a:lE u t x s z w r)(b:fQ u p w=Q q):∃(d:Nat->mm (aeP u t x s q) (aeO u t x s q) (aeQ u t x s q))(h:U),(∀y,(d y).c<p+1/\(d y).b=y/\(d y).a x.a=h)/\∀c,am c h=am c z.nt:=by cases p with|zero=>cases b|succ p=>rw[fQ]at b;have hh:=a.a;cases i:w.b with|nil=>rw[aC (by rw[i];rfl)]at b;(have v:z.c=[]:=by have:=a.k.g;rw[i]at this;generalize z.c=hm at this;cases this;rfl);(have f:z.nv.d=ab\/z.nv.d=.d z.k 0 0 0:=by have:=a.k.na;rw[v]at this;rcases this with⟨o,_⟩|⟨o,_⟩;exact .inl o;exact .inr o);(have v:∀h:bK,h=z.nv->∀c,am c ((x.a,h.nd)::z.no)=am c z.nt:=λh d c=>by rw[ahU,d,bb,hh]);(cases k:w.i with|none=>rw[k]at b;cases b;(have j:z.nv.e=be:=by have:=a.k.nn;rw[k]at this;exact this);rcases f with f|f;(have d:({z.nv with d:=ab,e:=be})=z.nv:=by rw[<-f,<-j]);exact⟨λy=>.f z.nv z.no y ⟨w,z,J,a.k,a.a,a.g,λ_=>⟨i,r,a⟩,.inl λc=>v _ d c⟩,_,λy=>⟨by show 0<_;omega,J,J⟩,λc=>v _ d c⟩;(have d:({z.nv with d:=.d z.k 0 0 0,e:=be})=z.nv:=by rw[<-f,<-j]);exact⟨λy=>.g z.nv z.k z.no y ⟨w,z,J,a.k,a.a,a.g,λ_=>⟨i,r,a⟩,.inl λc=>v _ d c⟩,_,λy=>⟨by show 0<_;omega,J,J⟩,λc=>v _ d c⟩|some m=>rw[k]at b;cases b;have j:=a.k.nn;rw[k]at j;let⟨l,k,j⟩:=j;(have hc:m<Y w.g:=by rw[<-a.k.b.2.2.1];exact(bc.1 k).1);let⟨n,hg⟩:=a1 hc;obtain⟨he,hb,hk,hj,g,hd,hl,e,ha,hf,hi,rfl⟩:=a.k.nf.2 m n hg;rw[k]at e;cases e;(have e:n.a<Y w.a:=by rw[<-a.k.b.1];exact(bc.1 ha).1);let⟨he,k⟩:=a1 e;let⟨e,hi,he,hl,hf,hn,hk,_⟩:=a.k.i k;(have hl:hj=e.d.n:=by have:=hf.d;rw[ha]at this;exact cx this);subst hl;(have ha:bW w.a (eV w m)=e.d.a:=by(have:eV w m=n.a:=by rw[eV];rw[hg]);rw[this,xc k];exact hf.c.symm);(have hf:∀c,am c z.no=am c ((l,.a [.a e.d.n 0,g])::(e.d.n,e.d.m e.a)::((z.nv.a,.c z.d)::(z.ng,z.nf)::(z.nb,z.na)::(z.k,z.nc)::(z.m,z.l)::(z.g++(z.n++(hi++(an ((z.i.map (·.c)).set n.a [])++(hd++(an (z.nd.set m [])++(an z.ni++z.nu))))))))):=λc=>by rw[F.no];simp only[bb,ba,hk,yJ hb];omega);rw[ha];(have ha:∀h:bK,h=z.nv->∀c,am c ((x.a,h.nd)::(l,.a [.a e.d.n 0,g])::(e.d.n,e.d.m e.a)::((z.nv.a,.c z.d)::(z.ng,z.nf)::(z.nb,z.na)::(z.k,z.nc)::(z.m,z.l)::(z.g++(z.n++(hi++(an ((z.i.map (·.c)).set n.a [])++(hd++(an (z.nd.set m [])++(an z.ni++z.nu)))))))))=am c z.nt:=λh d c=>by rw[<-v h d c,bb,bb (a:=(x.a,h.nd)),hf]);rcases f with f|f;(have d:({z.nv with d:=ab,e:=.a l 0})=z.nv:=by rw[<-f,<-j]);exact⟨λy=>.h z.nv l e.d e.a g _ y ⟨w,z,J,a.k,a.a,a.g,λ_=>⟨i,r,a⟩,.inl λc=>ha _ d c⟩,_,λy=>⟨by show 0<_;omega,J,J⟩,λc=>ha _ d c⟩;(have d:({z.nv with d:=.d z.k 0 0 0,e:=.a l 0})=z.nv:=by rw[<-f,<-j]);exact⟨λy=>.i z.nv z.k l e.d e.a g _ y ⟨w,z,J,a.k,a.a,a.g,λ_=>⟨i,r,a⟩,.inl λc=>ha _ d c⟩,_,λy=>⟨by show 0<_;omega,J,J⟩,λc=>ha _ d c⟩)|cons l m=>rw[ak (by rw[i];exact nofun)]at b;(obtain⟨j,g,n⟩:∃j g,z.c=j::g:=by have:=a.k.g;rw[i]at this;generalize z.c=hm at this;cases this with|a _ _=>exact⟨_,_,J⟩);(have f:z.nv.d=.d z.k 0 (Y (cJ g)+1) 0:=by have:=a.k.na;rw[n,rX]at this;rcases this with⟨_,o⟩|⟨he,_⟩;exact aE (pY.1 o) az;rw[he];simp);(have h:z.nv.nd=.a [z.nv.i,z.nv.n,z.nv.k,z.nv.o,z.nv.na,z.nv.f,z.nv.m,z.nv.nb,z.nv.l,.g z.nv.a,z.nv.g,.d z.k 0 (Y (cJ g)+1) 0,.a z.nn 0,V z.nv.c,V z.nv.h,z.nv.b,z.nv.e]:=by unfold bK.nd;rw[f,a.k.nv]);(have e:∀c,am c z.nt=db c (x.a,.a [z.nv.i,z.nv.n,z.nv.k,z.nv.o,z.nv.na,z.nv.f,z.nv.m,z.nv.nb,z.nv.l,.g z.nv.a,z.nv.g,.d z.k 0 (Y (cJ g)+1) 0,.a z.nn 0,V z.nv.c,V z.nv.h,z.nv.b,z.nv.e])+db c (z.nn,.a [B z.nm,B z.nj,.h z.nl])+db c (z.nl,.d 1<|gd z.nj z.nm)+am c ((z.nv.a,.c z.d)::(z.ng,z.nf)::(z.nb,z.na)::(z.k,z.nc)::(z.m,z.l)::(z.n++(z.e++(an z.nd++(an z.ni++z.nu))))):=λc=>by rw[ce,h,hh];unfold F.g;simp only[bb,ba,bG];omega);by_cases k:w.e=u.d;rw[aC k]at b;cases b;(have f:gd z.nj z.nm=1:=by unfold gd;rw[a.k.np,a.k.nx,aC k]);rw[f]at e;(have o:∀c,am c ([(x.a,P.a [z.nv.i,z.nv.n,z.nv.k,z.nv.o,z.nv.na,z.nv.f,z.nv.m,z.nv.nb,z.nv.l,.g z.nv.a,z.nv.g,.d z.k 0 (Y (cJ g)+1) 0,.a z.nn 0,V z.nv.c,V z.nv.h,z.nv.b,z.nv.e]),(z.nn,.a [B z.nm,B z.nj,.h z.nl]),(z.nl,.d 1 1)]++((z.nv.a,.c z.d)::(z.ng,z.nf)::(z.nb,z.na)::(z.k,z.nc)::(z.m,z.l)::(z.n++(z.e++(an z.nd++(an z.ni++z.nu))))))=am c z.nt:=λc=>by rw[e,ba,bb,bb,bb,bG];omega);refine⟨λy=>.e z.nv z.k (Y<|cJ g) z.nn z.nl z.nm z.nj ((z.nv.a,.c z.d)::(z.ng,z.nf)::(z.nb,z.na)::(z.k,z.nc)::(z.m,z.l)::(z.n++(z.e++(an z.nd++(an z.ni++z.nu))))) y ⟨w,z,J,a.k,a.a,a.g,(λd=>aE d A),.inr ⟨J,λc=>?_⟩⟩,_,λy=>⟨by show 0<_;omega,J,J⟩,o⟩;rw[e,ba,bb,bb,bb,bG];omega;rw[ak k]at b;(have f:gd z.nj z.nm=0:=by unfold gd;rw[a.k.np,a.k.nx,ak k]);rw[f]at e;(have hc:w.e<u.d:=by have:=a.c;omega);(have hb:∀c,am c ([(x.a,P.a [z.nv.i,z.nv.n,z.nv.k,z.nv.o,z.nv.na,z.nv.f,z.nv.m,z.nv.nb,z.nv.l,.g z.nv.a,z.nv.g,.d z.k 0 (Y (cJ g)+1) 0,.a z.nn 0,V z.nv.c,V z.nv.h,z.nv.b,z.nv.e]),(z.nn,.a [B z.nm,B z.nj,.h z.nl]),(z.nl,.d 1 0)]++((z.nv.a,.c z.d)::(z.ng,z.nf)::(z.nb,z.na)::(z.k,z.nc)::(z.m,z.l)::(z.n++(z.e++(an z.nd++(an z.ni++z.nu))))))=am c z.nt:=λc=>by rw[e,ba,bb,bb,bb,bG];omega);exact⟨λy=>.d p z.nv z.k (Y<|cJ g) z.nn z.nl z.nm z.nj _ y ⟨z,w,r,l,m,a,i,hc,b,hb⟩,_,λy=>⟨by show p+1<_;omega,J,J⟩,hb⟩
def M8(b:lE u t x s z w r)(a:lH u)(d:Y x.f+1300000*bH s<=80000000)(c:fQ u p w=Q q):D t T 317 [.a x.a 0] y z.nt (λl _ k=>∃g d,l=.c [V g,O d]/\AD u t x s q g d k) H:=by
 let⟨f,i,e,h⟩:=VP b c;have n:z.nt.Perm ((f y).a x.a):=eJ λj=>by rw[(e y).2.2,h]
 refine D.b n<|aiO (f y) (e y).2.1 ?_ ?_ ?_ ?_;rintro p v hh hg d hb ha h i y⟨hc,he,b,m,c,e,hd,f,g,o⟩;have hc:b<=9000:=by have:=e.b;have:=a.c;omega
 let⟨hj,he,c,m,hf⟩:=ao6 e.k e.i hc a (by have:=e.e;omega) f hd;rw[he]at g;have g:=g;rw[<-e.a];refine D.b (eJ λj=>e.a▸o j)<|(hf y).a ?_ λ_ f=>f;rintro l a k⟨rfl,hi,o,hc,hd,he,hk,hf⟩;have a:lE u t x s hi hj (b+1):=⟨o,c,by rcases m.c with⟨k,l⟩|⟨k,l⟩<;>(have:=e.b;omega),by have:=e.e;omega,e.f.b hc,λo n=>hd o<|e.h o n,he.trans e.a,by rcases m.c with⟨k,l⟩|⟨k,l⟩<;>omega,e.d.b m.b⟩;let⟨c,m,b,n⟩:=VP a g;rw[e.a];exact⟨J,c,m,b,eJ λj=>by rw[hf,n]⟩;intro v hh hg d hb ha h i f;exact f;intro v h i f;exact f;intro v o r e j h i f;exact f
end
section
variable{r:a8}{t:U}{z:F}{x:ag}{w u q:Nat}{s:W ci}{y:ci}
def agW(a:aN r t b1 z x)(d:bj x)(b:z.nw.e[w]?=Q s)(c:s[u]?=Q y)(e:Y x.b<=100):D t T 306 [.a z.a 0,.a y.g 0,ab] q z.nt (λk _ v=>∃g,k=.a g 0/\∃f,aN r t b1 f (ga x w u [] Z)/\f.nw=z.nw/\f.nu=z.nu/\f.a=z.a/\f.f=z.f/\∀j,am j v=am j f.nt) H:=by
 let h:w<Y x.a:=a.b.2.1▸(bc.1 b).1;let⟨e,g⟩:=a1 h;let⟨p,l,m,f,o⟩:=a.h g;let⟨j,p,h,i,v,_⟩:=f.a;rw[b]at p;cases p;let o:e.c.a[u]?=Q y.f:=by rw[<-i,cv,c];rfl
 let i:=wn d y.f<|lc g▸bl o;let l:cu x.a w u=y.f:=by rw[cu];rw[lc g,o];rfl
 let m:=tR i;let n:=m.1;let e:ad y.f.b<=1000:=by have:=m.2.1;omega
 let f:=h.b y<|bl c;let g:Y (cJ z.c)<=10000:=by rw[pQ,a.g.d];omega
 let d:lb (t++((z.nv.a,.c z.d)::(z.ng,z.nf)::(z.nb,z.na)::(z.m,z.l)::(z.g++(z.n++(z.e++(an z.nd++(an z.ni++z.nu))))))) y:=f.a λh k=>bo _ (by simp[k]);refine D.c ((z.nv.a,.c z.d)::(z.ng,z.nf)::(z.nb,z.na)::(z.m,z.l)::(z.g++(z.n++(z.e++(an z.nd++(an z.ni++z.nu)))))) (λj=>?_) (Et (y:=[]) d n e (aK.c ..) (eL _) J a.na g) ip ?_;rw[ce];simp only[bb,ba,bG];omega;rintro e d _⟨k,h,g,f,n,i,rfl,j,m,rfl⟩;let o:ga x w u [] Z=aV x ⟨w,u,0,0,e8 (ad y.f.b) .a,[],Z,Z⟩:=by rw[ga];simp only[l,hH,zF,se];rw[gT<|xK▸bd _];rfl
 let v:([]++(fz [bN]<|ad y.f.b).drop (Y ([]:W X)))=fz [bN] (ad y.f.b):=rfl;let l:Y (fz [bN]<|ad y.f.b)=ad y.f.b:=by rw[E4]
 let p:g0 z.nw (k,i++[(h,.b 366 1 (ad y.f.b)<|fz [bN]<|ad y.f.b)]) ⟨w,u,0,0,e8 (ad y.f.b) .a,[],Z,Z⟩:=⟨c9.g y.g h<|ad y.f.b,y,[],fz [bN]<|ad y.f.b,i,h,⟨s,b,c⟩,J,J,J,by rw[l];rfl,J,J,.b,Jf _,m,by rw[l]⟩;let n:=a.nm p j;rw[<-o]at n;refine⟨k,J,_,n,J,J,J,J,λa=>?_⟩;rw[ce,dJ J,v];simp only[bb,ba,bG,F.g,F.e,F.n];omega
end
def vp(e:a8)(b c d:Nat)(f:aJ)(a:Int×ac×ag):S (Int×ac×ag):=if a.1=1 then(if f then fQ e d (ga a.2.2 b c [] Z)else kU e b c d a.2.2)else Q a
def aoa{a b d c e}:kU a b d (c+1) e=(match dO a e b with|(Q g,_,f)=>Q (2,bW f.a<|eV f g,f)|(Z,h,i)=>(fQ a c i).bind (vp a b d c h)):=by rfl
section
variable{y:a8}{s:U}{r z:F}{q x:ag}{w m n u t:Nat}{p:Int×ac×ag}{o:U}
def af0(y:a8)(s:U)(r:F)(q:ag)(p:Int×ac×ag)(w:Nat)(o:U):Prop:=∃z x n c d a,lE y s r q z x n/\x.b=[]/\dO y x w=(Q c,d,a)/\(2,bW a.a<|eV a c,a)=p/\∀b,am b o=am b z.nt
def af1(y:a8)(s:U)(r:F)(q:ag)(p:Int×ac×ag)(w m u:Nat)(o:U):Prop:=∃z x n b,lE y s r q z x n/\x.b=[]/\dO y x w=(Z,N,b)/\(fQ y u b).bind (vp y w m u N)=Q p/\∀a,am a o=am a z.nt
def af2(y:a8)(s:U)(r:F)(q:ag)(p:Int×ac×ag)(w m:Nat)(o:U):Prop:=∃z x n u b,lE y s r q z x n/\x.b=[]/\dO y x w=(Z,K,b)/\(fQ y u b).bind (vp y w m u K)=Q p/\∀a,am a o=am a z.nt
def af3(y:a8)(s:U)(r:F)(q:ag)(p:Int×ac×ag)(w m:Nat)(o:U):Prop:=∃z x n u,lE y s r q z x n/\x.b=[]/\eO x.a w=.b/\fQ y u (ga x w m [] Z)=Q p/\∀a,am a o=am a z.nt
def YJ(b:lE y s r q z x n)(d:x.b=[])(a:kU y w m u x=Q p)(c:∀h,am h o=am h z.nt):∃f:Nat->ji (af0 y s r q p w) (af1 y s r q p w m) (af2 y s r q p w m) (af3 y s r q p w m),∀t,(f t).f<u+2/\(f t).b=t/\(f t).c=N/\(f t).d=o:=by cases u with|zero=>cases a|succ u=>rw[aoa]at a;cases e:dO y x w with|mk j l=>let⟨i,g⟩:=l;rw[e]at a;cases j with|some k=>exact⟨λt=>.g o t ⟨z,x,n,k,i,g,b,d,e,cx a,c⟩,λt=>⟨by show 0<_;omega,J,J,J⟩⟩|none=>cases i with|false=>exact⟨λt=>.h u o t ⟨z,x,n,g,b,d,e,a,c⟩,λt=>⟨by show u+2<_;omega,J,J,J⟩⟩|true=>exact⟨λt=>.i o t ⟨z,x,n,u,g,b,d,e,a,c⟩,λt=>⟨by show 1<_;omega,J,J,J⟩⟩
def aN.nr{p j t}(q:aN y s b1 z p)(r:z.nw.d[j]?=Q t):∃(v:bI)(ha w:X)(u:U),v.a=bW p.a (eV p j)/\∀x,am x z.nt=am x ((t,.a [.a v.n 0,w])::(v.n,v.m ha)::u):=by
 have v:j<Y p.g:=q.b.2.2.1▸(bc.1 r).1;let⟨u,x⟩:=a1 v;obtain⟨w,he,hg,hb,hc,ha,hh,t,v,hd,hf,rfl⟩:=q.nf.2 j u x;rw[r]at t;cases t;have r:u.a<Y p.a:=q.b.1▸(bc.1 v).1;let⟨w,t⟩:=a1 r;let⟨w,hf,hg,hh,r,hi,hd,_⟩:=q.i t;have q:hb=w.d.n:=by have:=r.d;rw[v]at this;exact cx this
 subst q;refine⟨w.d,w.a,hc,(z.a,z.nv.nd)::(z.nv.a,.c z.d)::(z.ng,z.nf)::(z.nb,z.na)::(z.k,z.nc)::(z.m,z.l)::(z.g++(z.n++(hf++(an ((z.i.map (·.c)).set u.a [])++(ha++(an (z.nd.set j [])++(an z.ni++z.nu))))))),?_,λq=>?_⟩;have:eV p j=u.a:=by rw[eV];rw[x]
 rw[this,xc t];exact r.c;rw[ce,hd,yJ he];simp only[bb,ba];omega
end
section
variable{y:a8}{s:U}{u:F}{t:ag}{z r m x w:Nat}{p:Int×ac×ag}{q:cK}{o:W ci}{n:ci}
def aiN{b}(e:b.b=[]){f d c}(a:fQ y x b=Q (f,d,c)):c=b:=by cases x with|zero=>cases a|succ x=>rw[fQ]at a;rw[aC (by rw[e];rfl)]at a;split at a<;>(cases a;rfl)
def an6(c:lE y s u t u t m)(v:t.b=[])(b:lH y)(f:1<=y.b)(e:Y u.f+1300000*bH t<=80000000)(d:dF t z)(h:(ax t.a z).a[r]?=Q q)(l:q.g=K)(j:q.d=[])(k:q.a.a=0)(g:u.nw.e[z]?=Q o)(i:o[r]?=Q n)(a:kU y z r x t=Q p):D s T 241 [.a u.a 0,.b [.a (u.o z).n 0,.a n.g 0]] w u.nt (λhw _ hu=>∃hj h2 kr kq,hw=.c [V hj,O h2]/\AD y s u t p hj h2 kq/\hu.Perm (kr::kq)) H:=by
 let⟨m0,k8⟩:=a1 d.1;have j1:=(c.k.d k8).1;have ke:∀{ht:F}{hl:ag}{hv:Nat}{hf:U}(w:Nat),lE y s u t ht hl hv->hl.b=[]->(∀he,am he hf=am he ht.nt)->dF hl z/\D s T 316 [.a u.a 0,.a (u.o z).n 0] w hf (λhw _ hu=>∃hz,hw=.c [hz,R (dO y hl z).2.1]/\AS y s b1 ht hl (dO y hl z).1 (dO y hl z).2.2 hz hu) H:=λ{ht hl hv hf}w ha hq hi=>by have ho:=d.a ha.d c.i.c.a;let⟨m1,kv⟩:=a1 ho.1;have kx:=(ha.k.d kv).1;rw[ha.f.c _ _ j1]at kx;have m4:=ha.i.d.b;(have hh:hv<=5200:=by have:=ha.b;have:=ha.c;have:=b.c;omega);refine⟨ho,?_⟩;rw[cx kx,<-ha.a];exact D.b (eJ hi)<|Y6 ha.k ha.i.c ha.i.d.e.b kv ho (by have:=ha.e;omega) L (by rw[hq];exact eL _) b.b
 let⟨j7,j2⟩:=YJ (o:=u.nt) c v a λ_=>rfl;refine an8 (p:=AD y s u t p) (n:=λx hf=>∃hd hb hs,lE y s u t hd hb hs/\(fQ y x hb).bind (vp y z r x N)=Q p/\∀he,am he hf=am he hd.nt) (m:=λhf=>∃hd hb hs x,lE y s u t hd hb hs/\hb.b=[]/\eO hb.a z=.b/\(fQ y x hb).bind (vp y z r x K)=Q p/\∀he,am he hf=am he hd.nt) (l:=λhf=>∃hd hb hs x,lE y s u t hd hb hs/\fQ y x hb=Q p/\∀he,am he hf=am he hd.nt) j7 (λw=>(j2 w).2) ?_ ?_ ?_ ?_ ?_ ?_ ?_;rintro hf w⟨ht,hl,hv,k0,kr,hb,ha,hq,h4,j4,hi⟩;have h0:=S4 (x:=y) (z:=hl) (y:=z) (b:=k0) (by rw[h4]);have kj:=(O0 (w:=y) ha.i.c (ke w ha hq hi).1 ha.i.d).b;have m6:=ha.b;have m5:=ha.c;refine(ke w ha hq hi).2.a ?_ λ_ a=>a;rw[h4]at h0 kj⊢;have kj:Y hb.c<=50*hv+200+2:=kj;rintro hw h6 hu⟨hz,rfl,hd,hm,hr,hn,hg,kc,h3,h7,h1,h8,rfl⟩;let⟨j6,j8,k5,k2,j3,kw⟩:=hm.nr h8;simp only at h0;subst h0;exact⟨h1,j6,j8,k5,k2,J,⟨hb,hd,by rw[j3];exact j4.symm,hm,hg.trans ha.a,L,λhk=>aE hk A,.inl λhe=>(kw he).symm⟩,eJ λhe=>(h7 he).trans<|kw he⟩;rintro x hf w⟨ht,hl,hv,hb,ha,hq,h4,hp,hi⟩;let⟨ho,kn⟩:=ke w ha hq hi;have h9:=ww (w:=y) ha.i.c ho;have hh:=O0 (w:=y) ha.i.c ho ha.i.d;refine kn.a ?_ λ_ a=>a;rw[h4]at h9 hh⊢;let⟨k1,kd,m7,ko⟩:=h9;rintro hw h6 hu⟨hz,rfl,hd,hm,hr,hn,hg,kc,h3,h7,h8⟩;have hx:=h8;subst hx;have k7:jb hb hb.b:=by rcases ko with ko|⟨kt,j9,ht,hd,hy⟩;rw[ko,hq];trivial;rw[hd,hq];exact hy hb k1 (cq.o hb) [] ht
 refine⟨J,hd,hb,hv+1,⟨hm,⟨k1,k7,kd.e.trans ha.i.a,hh.d L L⟩,?_,by have:=ha.e;have m3:Y hd.f+1300000*bH hb<=Y ht.f+1300000*bH hl:=h3;omega,ha.f.b hr,λh1 km=>hn h1<|ha.h h1 km,hg.trans ha.a,by rw[kd.m];exact ha.c,ha.d.b kd.tofj⟩,hp,h7⟩;have:=ha.b;rw[kd.m];omega;rintro hf w⟨ht,hl,hv,x,hb,ha,hq,h4,hp,hi⟩;let⟨ho,kn⟩:=ke w ha hq hi;have h9:=ww (w:=y) ha.i.c ho;refine kn.a ?_ λ_ a=>a;rw[h4]at h9⊢;obtain⟨rfl,kb⟩:=h9;rintro hw h6 hu⟨hz,rfl,hd,hm,hr,hn,hg,kc,h3,h7,h8⟩;have hx:hz=be:=h8;subst hx;exact⟨J,hd,_,hv,x,⟨hm,ha.i,ha.b,df h3 ha.e,ha.f.b hr,λh1 km=>hn h1<|ha.h h1 km,hg.trans ha.a,ha.c,ha.d⟩,hq,kb,hp,h7⟩;rintro x hf w⟨hd,hb,hs,hc,hp,hi⟩;let⟨hz,hx,hh⟩:=ay.1 hp;refine D.b (eJ hi)<|(M8 (y:=w) hc b e hx).a ?_ λ_ a=>a;rintro hw h6 hu⟨hj,h2,rfl,kp,hy,rfl,hm,hr,kh,hn,hg⟩;refine⟨hj,h2,J,λkk=>?_,λka=>?_⟩;have kl:¬(hj=1):=λhk=>by subst hk;cases kk
 unfold vp at hh;rw[ak kl]at hh;cases hh;exact⟨kp,hy,J,hm,hr,kh,hn,hg⟩;have ki:hj=1:=by(have:ao hj 1=K:=by cases h0:ao hj 1 with|true=>rfl|false=>rw[h0]at ka;cases ka);exact dc.1 this
 subst ki;let⟨ky,kz,kf⟩:=hn J;unfold vp at hh;rw[aC J]at hh;rcases hg with hg|⟨hk,_⟩;exact YJ kf ky hh hg;exact aE hk A;rintro hf w⟨hd,hb,hs,x,hc,h5,kb,hp,hi⟩;let⟨hz,hx,hh⟩:=ay.1 hp;refine D.b (eJ hi)<|(M8 (y:=w) hc b e hx).a ?_ λ_ a=>a;rintro hw h6 hu⟨hj,h2,rfl,kp,hy,rfl,hm,hr,kh,hn,hg⟩;refine⟨hj,h2,J,λkk=>?_,λka=>?_⟩;have kl:¬(hj=1):=λhk=>by subst hk;cases kk
 unfold vp at hh;rw[ak kl]at hh;cases hh;exact⟨kp,hy,J,hm,hr,kh,hn,hg⟩;have ki:hj=1:=by(have:ao hj 1=K:=by cases h0:ao hj 1 with|true=>rfl|false=>rw[h0]at ka;cases ka);exact dc.1 this
 subst ki;let⟨ky,kz,kf⟩:=hn J;have j5:=aiN h5 hx;subst j5;unfold vp at hh;rw[aC J]at hh;rcases hg with hg|⟨hk,_⟩;exact⟨hy,_,kz,x,kf,h5,kb,hh,hg⟩;exact aE hk A;rintro hf w⟨hd,hb,hs,x,hc,h5,kb,hp,hi⟩;have ho:=d.a hc.d c.i.c.a;rw[<-hc.a];refine D.b (eJ hi)<|(agW (q:=w) hc.k hc.i.c (hc.f.d _ _ g) i (by rw[h5];exact eL _)).a ?_ λ_ a=>a;rintro hw h6 hu⟨kt,rfl,hy,hm,hr,hn,hg,kc,h3⟩;let⟨he,ku⟩:=a1 ho.1;have j0:ax hb.a z=ax t.a z:=(hc.d.a d.1).2.2.1;have k9:pz hb z:=Dn hc.i.c ho.1 kb z (by rw[fv ku];exact(hc.i.c.a.a z he ku).1);let⟨ks,kg,m2,k3,k4⟩:=Ga hc.i.c (a:=z) (b:=r) (c:=q) (d:=[]) (e:=Z) (by show(ax hb.a z).a[r]?=_;rw[j0];exact h) k9 (by unfold jr;show bg _ [] (bif q.g then q.d else _);rw[l,j];exact .b) (λz hk=>by cases hk);have k6:jb (ga hb z r [] Z) (ga hb z r [] Z).b:=by rw[k3];refine k4 _ ks kg _ ?_;show fh _ hb.b _;rw[h5];exact k
 refine⟨kt,J,hy,_,hs,x,⟨hm,⟨ks,k6,kg.e.trans hc.i.a,Mw (NI hc.i.c z r) hc.i.d (by rw[h5];exact f) λz hk=>by cases hk⟩,hc.b,by rw[kc];exact hc.e,by rw[hr];exact hc.f,by rw[hn];exact hc.h,hg.trans hc.a,hc.c,hc.d.b kg.tofj⟩,hp,h3⟩;rintro hf w⟨hd,hb,hs,x,hc,hp,hi⟩;exact D.b (eJ hi)<|M8 (y:=w) hc b e hp
end
section
variable{x y:U}{z w:Nat}{u t:ac}
def akq{a:U->Prop}(b:∀z,D x T 295 [.a w 0,O u] z y (λf _ c=>f=.e 328 (.b [O t])/\a c) H):D x T 240 [.a w 0,O u] z y (λg _ d=>g=.e 328 (.b [O t])/\a d) H:=by refine D.b (go _)<|ai QT 9 [] λj=>?_;refine dQ J 0 [] (b _) ?_;rintro _ h e⟨rfl,i⟩;exists([]++e),en;refine I 28 []<|da 0 [] J ?_;exists J
def ako{a:Nat->Nat->U->Prop}(b:∀z,D x T 295 [.a w 0,O u] z y (λv _ o=>∃k t,v=.e 323 (.b [.a k 0])/\a k t o) H)(c:∀l h e z,a l h e->D e T 315 [.a l 0,O uR] z [] (λd _ p=>d=.a h 0/\p=[]) H):D x T 240 [.a w 0,O u] z y (λe _ q=>∃m i r f,e=.e 331 (.b [.a m 0,.a i 0])/\a m i f/\q=r++f) H:=by refine D.b (o:=[]++y) (go _)<|ai QT 9 [] λf=>?_;refine dQ J 0 [] (b _) ?_;rintro _ a d⟨n,j,rfl,g⟩;exists([]++d),en;apply I 29 [0,0];refine b7 J 1 0 [] (c n j d _ g) (he:=λc s=>.inr<|bo _ s) ?_;rintro _ b _⟨rfl,rfl⟩;apply I 24 [0];refine da 1 [0] J ?_;exact⟨n,j,[_],d,J,g,J⟩
def akp{a:Nat->U->Prop}(b:∀z,D x T 295 [.a w 0,O u] z y (λq _ k=>∃h,q=.e 323 (.b [.a h 0])/\a h k) H)(c:∀i e z,a i e->D e T 315 [.a i 0,O uR] z [] (λr _ l=>r=be/\l=[]) H):D x T 240 [.a w 0,O u] z y (λs _ m=>∃p n f,s=.e 328 (.b [O tu])/\a p f/\m=n++f) H:=by refine D.b (o:=[]++y) (go _)<|ai QT 9 [] λa=>?_;refine dQ J 0 [] (b _) ?_;rintro _ t d⟨j,rfl,g⟩;exists([]++d),en;apply I 29 [0,0];refine b7 J 1 0 [] (c j d _ g) (he:=λb o=>.inr<|bo _ o) ?_;rintro _ v _⟨rfl,rfl⟩;refine I 22 []<|da 1 [0] J ?_;exact⟨j,[_],d,J,g,J⟩
def anY{a:U->Prop}(b:∀z,D x T 240 [.a w 0,O u] z y (λj _ e=>j=.e 328 (.b [O t])/\a e) H):D x T 130 [.a w 0,O u] z y (λk _ f=>∃g c,k=.c [V 3,O t]/\a c/\f=g++c) H:=by refine D.b (o:=[]++y) (go _) ?_;refine ai abs 11 [] λi=>?_;refine dQ J 0 [] (b _) ?_;rintro _ l d⟨rfl,h⟩;exists([]++d),en;apply I 17 [0];refine bD (j:=1) bC i ?_;refine bF (c:=[0]) [0,1,2,3] ?_;apply aL .a 11 [];refine da 1 [0] J ?_;exact⟨[_],d,J,h,J⟩
def anX{a:Nat->Nat->U->Prop}{b:Int->ac->U->Prop}(c:∀z,D x T 240 [.a w 0,O u] z y (λg _ s=>∃p k,g=.e 331 (.b [.a p 0,.a k 0])/\a p k s) H)(d:∀q l e z,a q l e->D x T 241 [.a w 0,.b [.a q 0,.a l 0]] z e (λh _ t=>∃n i,h=.c [V n,O i]/\b n i t) H):D x T 130 [.a w 0,O u] z y (λi _ v=>∃o j a f,i=.c [V o,O j]/\b o j f/\v=a++f) H:=by refine D.b (o:=[]++y) (go _)<|ai abs 11 [] λk=>?_;refine dQ J 0 [] (c _) ?_;rintro _ b g⟨r,m,rfl,e⟩;exists([]++g),en;apply I 28 [0,0];refine dQ J 1 [] (d r m g _ e) ?_;rintro _ j h⟨f,c,rfl,d⟩;exists([(b,P.a [X.a r 0,X.a m 0])]++h),en;apply I 17 [];refine da 1 [0] J ?_;exact⟨f,c,[_],h,J,d,J⟩
end
def pF(g:a8)(c:U)(e:Nat)(f:Int×ac×ag)(b:Int)(d:ac)(a:U):Prop:=∃j h,f=(b,d,j)/\aN g c b1 h j/\h.a=e/\Y j.c<=400000/\((∀k,am k a=am k h.nt)\/(b=4/\∀i,am i a+db i (h.nl,.d 1 1)=am i h.nt+db i (h.nl,.d 1 0)))
section
variable{z:a8}{w:U}{u:F}{y:ag}{s x:Nat}{t:Int×ac×ag}
def pF.a{g h f e}(i:pF z w g t h f e)(d):pF z w g t h f (d++e):=by
 let⟨s,l,o,p,q,n,r⟩:=i;refine⟨s,_,o,p.c ug d,q,n,?_⟩;rcases r with k|⟨m,k⟩;exact .inl λu=>by rw[sJ,ba,k];omega
 refine .inr ⟨m,λj=>?_⟩;have:=k j;rw[sJ,ba];show am j d+am j e+db j (l.nl,.d 1 1)=am j l.nt+am j d+db j (l.nl,.d 1 0);omega
def pF.c{h i f d e}(j:pF z w h t i f d)(g:e.Perm d):pF z w h t i f e:=let⟨u,s,m,n,o,l,p⟩:=j;⟨u,s,m,n,o,l,p.imp (λq v=>by rw[D8 g,q]) λ⟨k,r⟩=>⟨k,λx=>by rw[D8 g,r]⟩⟩
def akw(a:jY y):bH y<=57:=by let d:=a.b;let e:bH y=gj y+Y (y.a.filter λb=>cj<|b.g=.c):=rfl;let f:Y (y.a.filter λc=>cj<|c.g=.c)<=Y y.a:=xJ ..;omega
def anS(a:aN z w b1 u y)(d:bj y)(c:fw z y)(g:lH z)(i:1<=z.b)(e:y.m=z.a)(k:Y y.c<=100)(f:y.b=[])(j:y.e=0)(h:u.f=[])(b:jd z s y=Q t):D w T 130 [.a u.a 0,O z.e] x u.nt (λo _ v=>∃n l,o=.c [V n,O l]/\pF z w u.a t n l v) H:=by
 have l:AP z w u y:=⟨g,a,d,e,c.c,L,h▸eL _⟩;have n:=so (x:=z) 42 z.e y d e;have o:=Ge (x:=z) 42 z.e y d e c.c;have k:=c.e d (Ln (x:=z) 42 z.e y) o.1;have v:=l.a z.e;rw[jd]at b;change F4 y z.e (et z z.e y)at n;change jY (et z z.e y).2/\_/\Y (et z z.e y).2.c<=_ at o;change fw z (et z z.e y).2 at k;generalize et z z.e y=d at n o k v b;let⟨hr,l⟩:=d;simp only at o k v b;have hg:∀(m:ac),(3,m,l)=t->(∀x,D w T 240 [.a u.a 0,O z.e] x u.nt (λq _ r=>q=.e 328 (.b [O m])/\∃p,aN z w b1 p l/\p.a=u.a/\∀d,am d r=am d p.nt) H)->D w T 130 [.a u.a 0,O z.e] x u.nt (λq _ m=>∃d p,q=.c [V d,O p]/\pF z w u.a t d p m) H:=λp hc d=>by refine(anY d).a ?_ λ_ a=>a;rintro he hb _⟨d,m,rfl,⟨hd,q,r,ha⟩,rfl⟩;have hb:pF z w u.a t 3 p m:=⟨l,hd,hc.symm,q,r,by have:=o.2.2;omega,.inl ha⟩;exact⟨3,p,J,hb.a d⟩
 rcases n.e with⟨m,d⟩|⟨ha,hk,_⟩;have p:=d;subst p;let⟨hc,_⟩:=n.a.d _ m<|n.d m J;let⟨d,p⟩:=a1 hc.1;have d:∀{q:F}{r:U},aN z w b1 q l->(∀hb,am hb r=am hb q.nt)->∃hd,q.nw.e[m]?=Q hd/\∀x,D r T 315 [.a (q.o m).n 0,O uR] x [] (λhf _ he=>hf=IX ((lV (ax l.a m) uR).bind λq=>hd[q]?)/\he=[]) H:=λ{hb hd}q he=>by let⟨r,hj,hf,hh,hi⟩:=q.h p;let⟨hn,hj,hl,hm,q,_⟩:=hh.a;have q:∀hh∈hb.nt,hh∈hd:=λhh hd=>pI.2 (by rw[he];exact pI.1 hd);refine⟨hn,hj,λx=>?_⟩;rw[lc p,<-Oh hm,hf];(have hd:(r.d.n,r.d.m r.a)∈hb.nt:=by rw[F.nt];simp[hi]);exact Hk (q _ hd)<|hl.a λhb r=>q hb (by rw[F.nt];simp[r])
 simp only at b;cases q:lV (ax l.a m) uR with|none=>rw[q]at b d;cases b;refine hg _ J λx=>?_;refine(akp (a:=λhe hd=>∃r,aN z w b1 r l/\r.a=u.a/\(∀hb,am hb hd=am hb r.nt)/\he=(r.o m).n) (λx=>(v x).a ?_ λ_ a=>a) ?_).a ?_ λ_ a=>a;rintro hp hj hi⟨hh,r,hl,hm,hd,hn,ho,he,hf,hb,rfl⟩;rw[(r.d p).1]at hb;exact⟨hf,J,hh,r,hd,he,(cx hb).symm⟩;rintro hf hd x⟨hh,r,he,hb,rfl⟩;let⟨he,_,hd⟩:=d r hb;exact hd x;rintro hl hf _⟨hi,r,hh,rfl,⟨hj,hb,hd,he,_⟩,rfl⟩;refine⟨J,_,hb.c ug r,hd,λhf=>?_⟩;rw[sJ,ba,he];omega|some hd=>rw[q]at b d;let⟨r,hb,hm,hj,hl⟩:=Ly q;have q:=akw o.1;refine(anX (a:=λhn hi hh=>∃q hf he,aN z w b1 q l/\q.a=u.a/\q.f=u.f/\(∀r,am r hh=am r q.nt)/\hn=(q.o m).n/\q.nw.e[m]?=Q hf/\hf[hd]?=Q he/\hi=he.g) (b:=λhe r q=>pF z w u.a t he r q) (λx=>(ako (a:=λhn hi hh=>∃r hf he,aN z w b1 r l/\r.a=u.a/\r.f=u.f/\(∀q,am q hh=am q r.nt)/\hn=(r.o m).n/\r.nw.e[m]?=Q hf/\hf[hd]?=Q he/\hi=he.g) (λx=>(v x).a ?_ λ_ a=>a) ?_).a ?_ λ_ a=>a) ?_).a ?_ λ_ a=>a;rintro hs hh hf⟨hp,m,hi,hn,r,hq,hd,he,ho,q,rfl⟩;rw[(m.d p).1]at q;let⟨hq,hh,hi,hf,hn⟩:=m.h p;let⟨hn,hh,hq,hi,hs,_⟩:=hf.a;rw[lc p,<-hi,cv]at hb;let⟨p,hf,_⟩:=b3.1 hb;exists ho,p.g,J,hp,hn,p,m,r,hd,he,(cx q).symm,hh,hf;rintro ho hi m x⟨hp,hn,hh,p,he,hf,q,rfl,r,hd,rfl⟩;let⟨hf,m,he⟩:=d p q;rw[r]at m;cases m;have:=he x;simp only[b2,hd,IX]at this;exact this;rintro hu hs _⟨hq,ho,m,ht,rfl,⟨d,hp,hn,p,q,r,hd,he,hf,hh,hi⟩,rfl⟩;refine⟨hq,ho,J,{d with nu:=d.nu++m},hp,hn,p.c ug m,q,r,λho=>?_,he,hf,hh,hi⟩;rw[sJ,ba,hd];omega;rintro ho hi hf x⟨d,hn,hh,m,p,q,r,rfl,hd,he,rfl⟩;have hf:eQ z 1 (50*1+200) l:=⟨k,by have:=o.2.2;omega,by rw[n.b.1,f];exact eL _,by rw[n.b.1,f];exact nofun⟩;have o:l.b=[]:=n.b.1.trans f;have f:l.e=0:=n.b.2.1.trans j;have j:lE z w d l d l 1:=⟨m,⟨n.a,by rw[o];trivial,n.c.e.trans e,hf⟩,by rw[f];omega,bd _,cy.a.a _,λ_ a=>a,J,by rw[f];exact eL _,(cq.o l).tofj⟩;rw[<-p];refine D.b (eJ r)<|(an6 (w:=x) j o g i (by rw[q,h];simp only[hH];omega) hc hb hm hj hl hd he b).a ?_ λ_ a=>a;rintro hc r o⟨h,e,c,f,rfl,⟨q,p,i,j,k,hb,_,n⟩,m⟩;have o:pF z w d.a t h e f:=⟨q,p,i,j,k,by have:=g.c;omega,n⟩;exact⟨h,e,J,(o.a [c]).c m⟩;rintro j f _⟨e,c,i,h,rfl,g,rfl⟩;exact⟨e,c,J,g.a i⟩
 have h:hr=.a ha:=hk;subst h;cases b;refine hg ha J λx=>?_;refine(akq (t:=ha) (a:=λg=>∃b,aN z w b1 b l/\b.a=u.a/\∀c,am c g=am c b.nt) λx=>(v x).a ?_ λ_ a=>a);rintro f g c⟨v,a,i,j,b,k,l,n,e⟩;exists e,v,a,b
end
def AA(b:U)(c:W X)(a:dM):Prop:=∃d e,c=[O a.d,O a.b,d,e]/\fm b a d e/\iA a
def iX(a:W (ac×ac)):∀b∈a.map eD,Y b=2:=λd c=>by obtain⟨_,_,rfl⟩:=cw.1 c;rfl
def XC:∀(a:W (ac×ac)),(a.map eD).flatten.all aB=K|[]=>rfl|c::b=>by rw[c4,jT,aat,XC b];rfl
section
variable{z:U}{y:Nat}{x:dM}{w u:X}
def aiA(a:fm z x w u)(b:iA x):bZ z T 33 [.b [O x.d,O x.b,w,u]] (λi=>∃(d:W UInt8)(f:Int),Y d<=2000000/\i=.c [.b [O x.d,O ⟨E d⟩],R<|ao f 0]) H:=by refine bZ.a (λy=>?_) (λ_ g _ _=>by obtain⟨k,l,_,rfl⟩:=g;rfl);refine ai func33 10 [1] λm=>?_;refine ae J [] (aiz a b) ?_;rintro _ j _⟨⟨e,c,h,rfl⟩,rfl⟩;refine I 20 [1,0]<|cg ?_;refine g4 (hb:=0) (m:=[(2,.a 0 0),(3,dd<|R<|ao c 0)]) (e:=[.b [O x.d,O ⟨E e⟩],R<|ao c 0]) [] (.inr J) aI J ⟨J,by rw[iu (by rw[bi];simp)];rfl,C⟩ M A<|⟨e,c,h,J⟩
def OM{h j b:X}{g:W dM}{a:W (ac×ac)}{f:ac}{d e c:Int}(i:c7 z 4 (AA z) h g)(l:aK z 2 j (a.map eD))(k:aB b=K)(m:∀p∈a,bf p.2<=4000000)(n:Y g<=2000000)(o:Y a<=2000000):D z T 38 [h,.b [j,O f,b,V d,V e,V c]] y [] (λs _ x=>∃(v:X)(p:W (ac×ac))(o q:U),s=.b [v,O f,b,V d,V e,V c]/\pC 89 2 v o (p.map eD)/\(∀r∈p,bf r.2<=4000000)/\x=o++q) H:=by refine D.b (o:=[]++[]) (go _)<|ai func38 18 [] λha=>?_;refine GH (h:=X×U×W (ac×ac)) (Y g) (λs⟨v,q,n⟩=>pC 89 2 v q (n.map eD)/\(∀g∈n,bf g.2<=4000000)/\Y n<=s) (λx⟨v,o,p⟩=>[(0,h),(3,X.a y 0),(4,X.a (y+1) 0),(5,v),(6,B x)]) (λn⟨v,r,g⟩=>[(y,P.a [j,O f,b,V d,V e,V c]),((y+1),P.a [ab,O ⟨#[]⟩,ab,V 0,V 0,V 0])]++(r++[])) (ab,[],[]) 2 [1,0] (⟨.inl bq,nofun,bd _⟩) gq J λp g h hc j=>?_;let⟨v,n,p⟩:=g;let⟨x,g,o⟩:=j;apply bO 5 [];refine ck i.choose_spec.1 i.choose_spec.2.1 ?_;apply I 3 [];refine aP J (λs=>?_)<|λs=>?_;let h:=cM s;let⟨j,hb⟩:=a1 h;obtain⟨_,⟨w,u,rfl,q,r⟩,t⟩:=i.d hb;apply aa 8 [];refine gk t λ_ _=>?_;refine a2 J (aiA q r) ?_;rintro _⟨q,i,r,rfl⟩;apply I 13 [0];refine aP J (λt=>?_)<|λt=>?_;apply aa 4 [0];refine wG (ha:=0) (p:=4) (n:=89) (j:=2) (hg:=32) (b:=[eD (j.d,⟨E q⟩)]) (x) J (iX p) (iX [(j.d,⟨E q⟩)]) M M J J J J J J J J A (J) (by simp only[bk,de,hH];omega) ?_;rintro hd t i r;exists _,J;refine I 6 [] ?_;refine cH ?_;refine I 2 [] ?_;exact rm (hd,t,p++[(j.d,⟨E q⟩)]) 4 [2,3] h (⟨by rw[c2];exact r,(λi hb=>by rcases dl.1 hb with t|t;exact g i t;rw[eY.1 t];show aj q.toArray<=_;simp;omega),by rw[bJ];simp;omega⟩) gq<|J;refine aa 5 [] ?_;refine cH ?_;refine I 2 [] ?_;exact rm (v,n,p) 3 [1,2] h (⟨x,g,as2 o⟩) gq<|J;let h:=e6 hc s;subst h;refine aa 2 [] ?_;refine ch ?_;refine aL (.b _) 7 [0] ?_;refine afl (he:=2) (hd:=89) (hc:=2) (hq:=32) ha (x) J (iX p) (l) M M J J J J J J (XC a) (by simp only[bk];omega) ?_;rintro l s j r;refine⟨_,J,?_⟩;refine I 1 [] ?_;refine dk 0 ?_ (hj:=sU r.a) (hb:=by simp only[co,cA,r.a];rfl);refine I 5 [0] ?_;refine dk 1 ?_ (hb:=by simp only[co,cA,r.a,k];rfl);refine I 3 [] ?_;refine cg ?_;refine qm (ha:=1) (p1:=[(4,.a 0 0)]) (e:=[.b [l,O f,b,V d,V e,V c]]) 2 [] (.inr J) aI J gp M ?_;exact⟨l,p++a,s,_,J,by rw[c2];exact r,(λb c=>(dl.1 c).elim (g b)<|m b),J⟩
end
def Jz{c:Type}{a:W c}(b:Y a=2):∃d f,a=[d,f]:=by match a,b with|[e,g],_=>exists e,g
def JA{c:Type}{a:W c}(b:Y a=3):∃d f h,a=[d,f,h]:=by match a,b with|[e,g,i],_=>exists e,g,i
def Cn{c:Type}{a:W c}(b:Y a=4):∃d f h j,a=[d,f,h,j]:=by match a,b with|[e,g,i,k],_=>exists e,g,i,k
def arj{c:Type}{a:W c}(b:Y a=5):∃d f h j l,a=[d,f,h,j,l]:=by match a,b with|[e,g,i,k,m],_=>exists e,g,i,k,m
def ark{c:Type}{a:W c}(b:Y a=7):∃d f h j l n p,a=[d,f,h,j,l,n,p]:=by match a,b with|[e,g,i,k,m,o,q],_=>exists e,g,i,k,m,o,q
def arl{c:Type}{a:W c}(b:Y a=9):∃d f h j l n p r t,a=[d,f,h,j,l,n,p,r,t]:=by match a,b with|[e,g,i,k,m,o,q,s,u],_=>exists e,g,i,k,m,o,q,s,u
def ari{c:Type}{a:W c}(b:Y a=10):∃d f h j l n p r t v,a=[d,f,h,j,l,n,p,r,t,v]:=by match a,b with|[e,g,i,k,m,o,q,s,u,w],_=>exists e,g,i,k,m,o,q,s,u,w
def qM:T.cellsOf 3=1:=M
def sZ:T.cellsOf 9=1:=M
def ZJ:T.cellsOf 4=1:=M
def Fg:T.cellsOf 71=2:=M
def ZR:T.cellsOf 73=5:=M
def Jx:T.cellsOf 69=1:=M
def aqA:T.cellsOf 76=1:=M
def aqz:T.cellsOf 131=1:=M
def aqy:T.cellsOf 132=1:=M
def aqx:T.cellsOf 22=1:=M
def aqB:T.cellsOf 23=1:=M
def pm:T.underlying 3=Q (.int .i64):=M
def pn:T.underlying 9=Q (.string):=M
def Fj:T.underlying 4=Q (.bool):=M
def ar5:T.underlying 69=Q (.slice 71):=M
def ar3:T.underlying 76=Q (.slice 75):=M
def ar2:T.underlying 131=Q (.slice 169):=M
def ar1:T.underlying 132=Q (.slice 176):=M
def ar0:T.underlying 22=Q (.slice 128):=M
def ar4:T.underlying 23=Q (.slice 134):=M
def aq6:lO T 71=Q [(3,0),(9,1)]:=M
def aq5:lO T 73=Q [(9,0),(9,1),(69,2),(71,3)]:=M
def aq3:lO T 75=Q [(3,0),(3,1),(73,2)]:=M
def ZP:T.cellsOf 75=7:=M
def aq2:lO T 169=Q [(3,0),(3,1),(3,2),(9,3)]:=M
def ZO:T.cellsOf 169=4:=M
def aq0:lO T 128=Q [(9,0),(4,1),(71,2)]:=M
def ZM:T.cellsOf 128=4:=M
def aq1:lO T 176=Q [(3,0),(69,1),(69,2)]:=M
def ZN:T.cellsOf 176=3:=M
def aq4:lO T 134=Q [(9,0),(4,1),(69,2),(71,3),(3,5),(3,6),(76,7),(131,8),(132,9)]:=M
def ZQ:T.cellsOf 134=10:=M
def aqY:lO T 25=Q [(9,0),(9,1),(22,2),(23,3)]:=M
def ZK:T.cellsOf 25=4:=M
def Z0{c:Type}{a:W c}(b:Y a=6):∃d f h j l n,a=[d,f,h,j,l,n]:=by match a,b with|[e,g,i,k,m,o],_=>exists e,g,i,k,m,o
def JD:T.underlying 52=Q (.slice 25):=M
def arZ:T.underlying 53=Q (.slice 89):=M
def aqw:T.cellsOf 53=1:=M
def aqZ:lO T 89=Q [(9,0),(9,1)]:=M
def ZL:T.cellsOf 89=2:=M
def Z8:T.underlying 54=Q (.slice 3):=M
def aqC:T.cellsOf 54=1:=M
def Jy:lO T 56=Q [(53,0),(9,1),(54,2),(3,3),(3,4),(3,5)]:=M
def aqD:T.cellsOf 56=6:=M
section
variable{t:Type}{w:fV×bh->t}{z:ap}{u:Nat}{x:W bh}{y:zL t×W CM}
def JB(a:gM w z u 71 x y):∃d,x=arY d/\lP d.a/\Rows.uptoBulk y.1=bf d.b+3:=by let⟨v,t,k,e,l,f⟩:=ul aq6 a;rw[Fg]at e;obtain⟨r,s,rfl⟩:=Jz e;obtain⟨a,b,rfl⟩:=Jz l;rw[k];simp only[c4,mK,Rows.uptoBulk,Rows.uptoBulkAll];let⟨_,i,b⟩:=f 0 _ _ J;cases i;rw[qM]at b;replace b:=b;let⟨o,m,h,p⟩:=pV pm b;cases m;let⟨_,j,c⟩:=f 1 _ _ J;cases j;rw[sZ]at c;replace c:=c;let⟨g,n,q⟩:=qN pn c;cases n;exact⟨⟨o,g⟩,J,h,by show _=bf g+3;omega⟩
def JC(a:gM w z u 69 x y)(b:Rows.uptoBulk y.1<=1048576):∃(v:bh)(c:_),x=[v]/\cn (iw z) (ed z v) c/\(∀d∈c,(λ_=>True) d)/\Y c<=1048576:=by obtain⟨v,k,g,h,i,-,q⟩:=vF (c:=λe l=>e=bM l) ar5 Fg L (λo n a=>by rw[a];rfl) (λs p t j r=>by let⟨m,f,_,_⟩:=JB j;exact⟨m,by rw[f];rfl,C,tl _⟩) a b;exists v,k,g,Fi h,i
def arS(b:gM w z u 73 x y)(a:Rows.uptoBulk y.1<=1048576):∃(c:pv)(j:bh),x=[.string c.b,.string c.c,j,.int .i64 c.d.a,.string c.d.b]/\cn (iw z) (ed z j) c.a/\True:=by let⟨hr,hp,o,i,p,h⟩:=ul aq5 b;rw[ZR]at i;obtain⟨hk,hl,hm,hn,ho,rfl⟩:=arj i;obtain⟨hs,ht,hu,hv,rfl⟩:=Cn p;rw[o]at a;simp only[c4,mK,Rows.uptoBulk,Rows.uptoBulkAll]at a;let⟨_,k,d⟩:=h 0 _ _ J;cases k;rw[sZ]at d;replace d:=d;let⟨hb,q,hg⟩:=qN pn d;cases q;let⟨_,l,e⟩:=h 1 _ _ J;cases l;rw[sZ]at e;replace e:=e;let⟨hc,r,hh⟩:=qN pn e;cases r;let⟨_,m,f⟩:=h 2 _ _ J;cases m;rw[Jx]at f;replace f:=f;let⟨hq,v,s,ha,he,hi⟩:=JC f L;cases s;let⟨_,n,g⟩:=h 3 _ _ J;cases n;rw[Fg]at g;replace g:=g;let⟨hd,t,hf,hj⟩:=JB g;cases t;exists⟨hb,hc,v,hd⟩,_,J,ha
def arN(b:gM w z u 75 x y)(a:Rows.uptoBulk y.1<=1048576):∃p,lG (iw z) (x.map<|ed z) p/\True/\1<=Rows.uptoBulk y.1:=by let⟨p,o,k,g,l,f⟩:=ul aq3 b;rw[ZP]at g;obtain⟨d,e,h,i,j,m,n,rfl⟩:=ark g;obtain⟨q,r,s,rfl⟩:=JA l;have g:=tl y.1;rw[k]at a;simp only[c4,mK,Rows.uptoBulk,Rows.uptoBulkAll]at a;let⟨_,h,c⟩:=f 0 _ _ J;cases h;rw[qM]at c;replace c:=c;let⟨r,m,v,b⟩:=pV pm c;cases m;let⟨_,i,d⟩:=f 1 _ _ J;cases i;rw[qM]at d;replace d:=d;let⟨s,n,a,c⟩:=pV pm d;cases n;let⟨_,j,e⟩:=f 2 _ _ J;cases j;rw[ZR]at e;replace e:=e;let⟨t,f,o,q,_⟩:=arS e L;cases o;exists⟨r,s,t⟩,⟨_,J,q⟩,C
def arO(a:gM w z u 76 x y)(b:Rows.uptoBulk y.1<=1048576):∃(v:bh)(c:_),x=[v]/\c7 (iw z) 7 (lG<|iw z) (ed z v) c/\(∀d∈c,(λ_=>True) d)/\Y c<=1048576:=by obtain⟨v,j,e,f,g,-,n⟩:=vF ar3 ZP L (λl k⟨_,a,_⟩=>by rw[a];rfl) (λo m p h i=>arN h i) a b;exists v,j,e,f,g
def arL(b:gM w z u 169 x y)(a:Rows.uptoBulk y.1<=1048576):∃s,x.map (ed z)=Bt s/\True/\1<=Rows.uptoBulk y.1:=by let⟨hp,ho,m,h,n,g⟩:=ul aq2 b;rw[ZO]at h;obtain⟨hj,hk,hl,hm,rfl⟩:=Cn h;obtain⟨hq,hr,hs,ht,rfl⟩:=Cn n;have hn:=tl y.1;rw[m]at a;simp only[c4,mK,Rows.uptoBulk,Rows.uptoBulkAll]at a;let⟨_,i,c⟩:=g 0 _ _ J;cases i;rw[qM]at c;replace c:=c;let⟨t,o,hc,hf⟩:=pV pm c;cases o;let⟨_,j,d⟩:=g 1 _ _ J;cases j;rw[qM]at d;replace d:=d;let⟨v,p,hd,hg⟩:=pV pm d;cases p;let⟨_,k,e⟩:=g 2 _ _ J;cases k;rw[qM]at e;replace e:=e;let⟨ha,q,he,hh⟩:=pV pm e;cases q;let⟨_,l,f⟩:=g 3 _ _ J;cases l;rw[sZ]at f;replace f:=f;let⟨hb,r,hi⟩:=qN pn f;cases r;exists⟨t,v,ha,hb⟩,J,C
def arM(a:gM w z u 131 x y)(b:Rows.uptoBulk y.1<=1048576):∃(v:bh)(c:_),x=[v]/\mp (iw z) (ed z v) c/\(∀d∈c,(λ_=>True) d)/\Y c<=1048576:=by obtain⟨v,k,f,g,h,-,p⟩:=vF (c:=λe l=>e=Bt l) ar2 ZO L (λn m a=>by rw[a];rfl) (λq o r i j=>arL i j) a b;exists v,k,f,Fi g,h
def arH(b:gM w z u 128 x y)(a:Rows.uptoBulk y.1<=1048576):∃p,x.map (ed z)=Bg p/\True/\1<=Rows.uptoBulk y.1:=by let⟨j,i,k,g,l,f⟩:=ul aq0 b;rw[ZM]at g;obtain⟨c,d,e,h,rfl⟩:=Cn g;obtain⟨m,n,o,rfl⟩:=JA l;have g:=tl y.1;rw[k]at a;simp only[c4,mK,Rows.uptoBulk,Rows.uptoBulkAll]at a;let⟨_,h,c⟩:=f 0 _ _ J;cases h;rw[sZ]at c;replace c:=c;let⟨q,m,v⟩:=qN pn c;cases m;let⟨_,i,d⟩:=f 1 _ _ J;cases i;rw[ZJ]at d;replace d:=d;let⟨r,n,a⟩:=Z5 Fj d;cases n;let⟨_,j,e⟩:=f 2 _ _ J;cases j;rw[Fg]at e;replace e:=e;let⟨s,o,t,b⟩:=JB e;cases o;exists⟨q,r,s⟩,J,C
def arI(a:gM w z u 22 x y)(b:Rows.uptoBulk y.1<=1048576):∃(v:bh)(c:_),x=[v]/\wC (iw z) (ed z v) c/\(∀d∈c,(λ_=>True) d)/\Y c<=1048576:=by obtain⟨v,k,f,g,h,-,p⟩:=vF (c:=λe l=>e=Bg l) ar0 ZM L (λn m a=>by rw[a];rfl) (λq o r i j=>arH i j) a b;exists v,k,f,Fi g,h
def arJ(b:gM w z u 176 x y)(a:Rows.uptoBulk y.1<=1048576):∃g,sv (iw z) (x.map<|ed z) g/\(Y g.a<=2000000/\Y g.b<=2000000)/\1<=Rows.uptoBulk y.1:=by let⟨p,k,n,h,o,f⟩:=ul aq1 b;rw[ZN]at h;obtain⟨g,i,j,rfl⟩:=JA h;obtain⟨q,r,s,rfl⟩:=JA o;have h:=tl y.1;rw[n]at a;simp only[c4,mK,Rows.uptoBulk,Rows.uptoBulkAll]at a;let⟨_,k,c⟩:=f 0 _ _ J;cases k;rw[qM]at c;replace c:=c;let⟨v,p,a,d⟩:=pV pm c;cases p;let⟨_,l,d⟩:=f 1 _ _ J;cases l;rw[Jx]at d;replace d:=d;let⟨l,i,q,s,b,e⟩:=JC d L;cases q;let⟨_,m,e⟩:=f 2 _ _ J;cases m;rw[Jx]at e;replace e:=e;let⟨m,j,r,t,c,f⟩:=JC e L;cases r;exists⟨v,i,j⟩,⟨_,_,J,s,t⟩,⟨by show Y i<=_;omega,by show Y j<=_;omega⟩
def arK(a:gM w z u 132 x y)(b:Rows.uptoBulk y.1<=1048576):∃(v:bh)(c:_),x=[v]/\c7 (iw z) 3 (sv<|iw z) (ed z v) c/\(∀e∈c,(λd:i6=>Y d.a<=2000000/\Y d.b<=2000000) e)/\Y c<=1048576:=by obtain⟨v,k,f,g,h,-,o⟩:=vF ar1 ZN L (λm l⟨_,_,a,_⟩=>by rw[a];rfl) (λp n q i j=>arJ i j) a b;exists v,k,f,g,h
def Tj(a:cK):Prop:=Y a.d<=2000000/\∀b∈a.f,Y b.a<=2000000/\Y b.b<=2000000
def arQ(b:gM w z u 134 x y)(a:Rows.uptoBulk y.1<=1048576):∃n,tC (iw z) (x.map<|ed z) n/\Tj n/\1<=Rows.uptoBulk y.1:=by let⟨kw,kr,he,m,hf,c⟩:=ul aq4 b;rw[ZQ]at m;obtain⟨kg,kh,ki,kj,kk,kl,km,kn,ko,kp,rfl⟩:=ari m;obtain⟨kx,ky,kz,k0,k1,k2,k3,k4,k5,rfl⟩:=arl hf;have kq:=tl y.1;rw[he]at a;simp only[c4,mK,Rows.uptoBulk,Rows.uptoBulkAll]at a;let⟨_,q,d⟩:=c 0 _ _ J;cases q;rw[sZ]at d;replace d:=d;let⟨hw,hg,h7⟩:=qN pn d;cases hg;let⟨_,r,e⟩:=c 1 _ _ J;cases r;rw[ZJ]at e;replace e:=e;let⟨hx,hh,h8⟩:=Z5 Fj e;cases hh;let⟨_,s,f⟩:=c 2 _ _ J;cases s;rw[Jx]at f;replace f:=f;let⟨ks,o,hi,hs,h1,h9⟩:=JC f L;cases hi;let⟨_,t,g⟩:=c 3 _ _ J;cases t;rw[Fg]at g;replace g:=g;let⟨hy,hj,h2,ka⟩:=JB g;cases hj;let⟨_,v,h⟩:=c 4 _ _ J;cases v;rw[qM]at h;replace h:=h;let⟨hz,hk,h3,kb⟩:=pV pm h;cases hk;let⟨_,ha,i⟩:=c 5 _ _ J;cases ha;rw[qM]at i;replace i:=i;let⟨h0,hl,h4,kc⟩:=pV pm i;cases hl;let⟨_,hb,j⟩:=c 6 _ _ J;cases hb;rw[aqA]at j;replace j:=j;let⟨kt,hp,hm,ht,h5,kd⟩:=arO j L;cases hm;let⟨_,hc,k⟩:=c 7 _ _ J;cases hc;rw[aqz]at k;replace k:=k;let⟨ku,hq,hn,hu,h6,ke⟩:=arM k L;cases hn;let⟨_,hd,l⟩:=c 8 _ _ J;cases hd;rw[aqy]at l;replace l:=l;let⟨kv,hr,ho,hv,p,kf⟩:=arK l L;cases ho;exists⟨hw,hx,o,hy,hz,h0,hp,hq,hr⟩,⟨_,_,_,_,J,hs,ht,hu,hv⟩,⟨by show Y o<=_;omega,p⟩
def arR(a:gM w z u 23 x y)(b:Rows.uptoBulk y.1<=1048576):∃(v:bh)(c:_),x=[v]/\c7 (iw z) 10 (tC<|iw z) (ed z v) c/\(∀d∈c,(Tj) d)/\Y c<=1048576:=by obtain⟨v,j,e,f,g,-,n⟩:=vF ar4 ZQ L (λl k⟨_,_,_,_,a,_⟩=>by rw[a];rfl) (λo m p h i=>arQ h i) a b;exists v,j,e,f,g
def arE(b:gM w z u 25 x y)(a:Rows.uptoBulk y.1<=1048576):∃j,AA (iw z) (x.map<|ed z) j/\True/\1<=Rows.uptoBulk y.1:=by let⟨hs,hp,o,h,p,g⟩:=ul aqY b;rw[ZK]at h;obtain⟨hk,hl,hm,hn,rfl⟩:=Cn h;obtain⟨ht,hu,hv,hw,rfl⟩:=Cn p;have ho:=tl y.1;rw[o]at a;simp only[c4,mK,Rows.uptoBulk,Rows.uptoBulkAll]at a;let⟨_,k,c⟩:=g 0 _ _ J;cases k;rw[sZ]at c;replace c:=c;let⟨hd,q,hg⟩:=qN pn c;cases q;let⟨_,l,d⟩:=g 1 _ _ J;cases l;rw[sZ]at d;replace d:=d;let⟨he,r,hh⟩:=qN pn d;cases r;let⟨_,m,e⟩:=g 2 _ _ J;cases m;rw[aqx]at e;replace e:=e;let⟨hq,v,s,hb,hf,hi⟩:=arI e L;cases s;let⟨_,n,f⟩:=g 3 _ _ J;cases n;rw[aqB]at f;replace f:=f;let⟨hr,ha,t,hc,i,hj⟩:=arR f L;cases t;exists⟨hd,he,v,ha⟩,⟨_,_,J,⟨hb,hc⟩,i⟩,C
def PD(a:gM w z u 52 x y)(b:Rows.uptoBulk y.1<=1048576):∃(v:bh)(c:_),x=[v]/\c7 (iw z) 4 (AA<|iw z) (ed z v) c/\(∀d∈c,(λ_=>True) d)/\Y c<=1048576:=by obtain⟨v,j,e,f,g,-,n⟩:=vF JD ZK L (λl k⟨_,_,a,_⟩=>by rw[a];rfl) (λo m p h i=>arE h i) a b;exists v,j,e,f,g
def arF(b:gM w z u 89 x y)(a:Rows.uptoBulk y.1<=1048576):∃e,x.map (ed z)=eD e/\bf e.2<=4000000/\1<=Rows.uptoBulk y.1:=by let⟨c,v,k,f,l,g⟩:=ul aqZ b;rw[ZL]at f;obtain⟨r,s,rfl⟩:=Jz f;obtain⟨b,d,rfl⟩:=Jz l;have t:=tl y.1;rw[k]at a;simp only[c4,mK,Rows.uptoBulk,Rows.uptoBulkAll]at a;let⟨_,i,c⟩:=g 0 _ _ J;cases i;rw[sZ]at c;replace c:=c;let⟨o,m,p⟩:=qN pn c;cases m;let⟨_,j,d⟩:=g 1 _ _ J;cases j;rw[sZ]at d;replace d:=d;let⟨h,n,q⟩:=qN pn d;cases n;exists(o,h),J,by show bf h<=_;omega
def arG(a:gM w z u 53 x y)(b:Rows.uptoBulk y.1<=1048576):∃(v:bh)(c:W (ac×ac)),x=[v]/\aK (iw z) 2 (ed z v) (c.map eD)/\(∀d∈c,(λf:ac×ac=>bf f.2<=4000000) d)/\Y c<=1048576:=by obtain⟨v,l,g,h,i,-,q⟩:=vF (c:=λe m=>e=eD m) arZ ZL L (λo n a=>by rw[a];rfl) (λr p s j k=>arF j k) a b;exists v,l,g,Fi h,i
def Z6(a:gM w z u 54 x y)(b:Rows.uptoBulk y.1<=1048576):∃(v:bh)(c:_),x=[v]/\iQ (iw z) (ed z v) c/\(∀d∈c,(lP) d)/\Y c<=1048576:=by obtain⟨v,l,h,i,j,-,r⟩:=vF (c:=λf(m)=>f=[X.k<|.int .i64 m]) Z8 qM L (λp o a=>by rw[a];rfl) (λt q c k s=>by let⟨n,g,e,_⟩:=pV pm k;exact⟨n,by rw[g];rfl,e,tl _⟩) a b;exists v,l,h,Fi i,j
def PE(b:gM w z u 56 x y)(a:Rows.uptoBulk y.1<=1048576):∃(l p:bh)(j:W (ac×ac))(o:ac)(k:W Int)(m hf s:Int),x=[l,.string o,p,.int .i64 m,.int .i64 hf,.int .i64 s]/\aK (iw z) 2 (ed z l) (j.map eD)/\iQ (iw z) (ed z p) k/\(∀t∈j,bf t.2<=4000000)/\Y j<=2000000/\Y k<=2000000/\bf o<=4000000/\lP m/\∀hs∈k,lP hs:=by let⟨kf,kc,hg,n,hh,c⟩:=ul Jy b;rw[aqD]at n;obtain⟨h6,h7,h8,h9,ka,kb,rfl⟩:=Z0 n;obtain⟨kg,kh,ki,kj,kk,kl,rfl⟩:=Z0 hh;rw[hg]at a;simp only[c4,mK,Rows.uptoBulk,Rows.uptoBulkAll]at a;let⟨_,v,d⟩:=c 0 _ _ J;cases v;rw[aqw]at d;replace d:=d;let⟨kd,ho,hi,hq,q,h0⟩:=arG d L;cases hi;let⟨_,ha,e⟩:=c 1 _ _ J;cases ha;rw[sZ]at e;replace e:=e;let⟨ht,hj,h1⟩:=qN pn e;cases hj;let⟨_,hb,f⟩:=c 2 _ _ J;cases hb;rw[aqC]at f;replace f:=f;let⟨ke,hp,hk,hr,hx,h2⟩:=Z6 f L;cases hk;let⟨_,hc,g⟩:=c 3 _ _ J;cases hc;rw[qM]at g;replace g:=g;let⟨hu,hl,r,h3⟩:=pV pm g;cases hl;let⟨_,hd,h⟩:=c 4 _ _ J;cases hd;rw[qM]at h;replace h:=h;let⟨hv,hm,hy,h4⟩:=pV pm h;cases hm;let⟨_,he,i⟩:=c 5 _ _ J;cases he;rw[qM]at i;replace i:=i;let⟨hw,hn,hz,h5⟩:=pV pm i;cases hn;exists _,_,ho,ht,hp,hu,hv,hw,J,hq,hr,q,L,L,L,r
end
section
variable{z y:Nat}
def akg:c6 T 128 [V 0] z [] λc b a=>c=.a (z+1) 0/\b=z+2/\a=[(z+1,.a [V 0,V 0,.h z]),(z,.d 1 1)]:=by refine io func128 J ntmps128 λ_ _ _ _=>?_;refine cD<|aq 1 [] [(2,be)] []<|fx<|e2 5 [] [(3,X.a (z+1) 0)] [] (z+2) [((z+1),P.a [V 0,V 0,X.h z]),(z,P.d 1 0)] []<|fx<|aq 1 [] [(8,X.a (z+1) 0)] []<|sy [0,1] [1,0] aI J J J J (YL) J<|fx<|aq 2 [] [(2,X.a (z+1) 0)] []<|cb<|ev<|eg [0,1] (.inr J) aI J A<|bq
def NR:c6 T 128 [B y] z [] λe b a=>e=.a (z+1) 0/\b=z+2/\a=[(z+1,.a [B y,B 0,.h z]),(z,.d 1<|gd 0 y)]:=by rw[gd];cases y with|zero=>exact akg|succ d=>rw[ak L];exact akh (λc=>by have:=Cz<|show fW 0=fW (d+1)from c;omega)
end
abbrev mD:X:=ab
def ahX(a j:Nat):bI:=⟨a+2*j,hW j,O ⟨#[]⟩,O ⟨#[]⟩,mD,mD,1,mD,mD,mD,mD⟩
def wZ(a j:Nat):rn:=⟨ahX a j,O4 a j,[(a+2*j,U4 (hW j)<|O4 a j)]⟩
def DS(a:Nat):cy:=⟨(fX 17).map λj=>a+2*j,e8 17 [],[],[]⟩
section
variable{z:Nat}{y:U}
def D6{j}(a:j<17):(DS z).c[j]?=Q (z+2*j):=by show((fX 17).map λj=>z+2*j)[j]?=Q (z+2*j);rw[cv,sd a];rfl
def Xv{j}(a:j<17):hW j=hL[j]?.getD bU:=by have:NV=hL:=rfl;rw[hW];rw[this];rfl
def UB{j}(a:j<17):e0[j]?=Q ⟨hL[j]?.getD bU,if j=0 then[0]else if j=1 then[1,0]else if j=2 then[2,1,0]else[j,2,1,0],⟨bU,bU,[],[]⟩,.b,[],[],[],[],[]⟩:=by rw[e0];rw[cv,sd a];rfl
def ajz{j b}(a:j<17)(c:e0[j]?=Q b):jG (DS z) y j (wZ z j) b:=by
 rw[UB a]at c;cases c;refine⟨D6 a,Xv a,J,?_,?_,J,⟨[],?_,⟨aK.c ..,nofun,eL _⟩,J,nofun,[],[],[],.b,.inl bq,⟨J,nofun⟩,J⟩,⟨aK.c ..,λ_=>rfl⟩,λd=>L⟩;match j,a with|0,_=>rfl|1,_=>exists _,D6 L|2,_=>exists _,D6 L|j+3,a=>exists _,D6 L
 exact⟨aK.c ..,eL _⟩;show(e8 17 ([]:W ci))[j]?=Q [];rw[List.getElem?_replicate,aC a]
def Ve(a:Nat×P):∀b,am a (iF z b)=am a (an<|((fX b).map<|wZ z).map (·.c))|0=>rfl|c+1=>by rw[List.range_succ,c2,c2,xH,ba,<-Ve a c];show db a _+am a (iF z c)=_;simp only[c4,mK,jT,asC,eF,wZ,bb,bG];omega
def aiD:im z 17=(fX 17).map λj=>(hW j,X.e 323<|.b [.a (z+2*j) 0]):=M
def akF:bg (rr<|DS z) (im z 17) ((fX 17).map λc=>(hL[c]?.getD bU,.b c)):=by
 rw[aiD];have:∀b:W Nat,(∀j∈b,j<17)->bg (rr<|DS z) (b.map λj=>(hW j,X.e 323<|.b [.a (z+2*j) 0])) (b.map λd=>(hL[d]?.getD bU,dx.b d)):=λi a=>by induction i with|nil=>exact .b|cons j k h=>exact .a ⟨Xv<|a j<|.head _,_,D6<|a j<|.head _,J⟩<|h λg e=>a g<|.tail _ e
 exact this _ λj f=>pr.1 f
end
section
variable{y:a8}{i w:U}{x u r q p t s o:Nat}{z:bK}{n m l k:P}
def EP(x u:Nat)(z:bK)(r:Nat)(n:P)(q:Nat)(m:P)(p:Nat)(l:P)(t s o:Nat)(k:P)(a:Nat)(w:U):F:=⟨DS x,u,z,im x 17,r,n,q,m,p,l,t,s,o,k,a,0,[],[],(fX 17).map<|wZ x,[],[],w⟩
def AZ:Y e0=17:=by simp[e0]
def anL(v:Md y i z)(a:z.b=mD)(b:z.g=mD)(c:z.d=mD)(d:z.nc=.a t 0)(e:z.c=y.f)(f:z.h=0)(g:z.e=be)(h:b1 w z.l):aN y i b1 (EP x u z r n q m p l t s o k y.d w) (es y)where
 nl:=by simp only[es,EP];exact akF
 n:=.inl ⟨a,J⟩
 nG:=.inl ⟨b,J⟩
 nH:=λa=>Iff.rfl
 na:=.inl ⟨c,J⟩
 nv:=d
 nx:=rfl
 np:=rfl
 nA:=e
 nL:=f
 nn:=g
 g:=.b
 k:=⟨by show Y ((fX 17).map<|wZ x)=Y e0;rw[AZ];simp,λj c a=>by let b:j<17:=AZ▸(bc.1 a).1;refine⟨wZ x j,?_,ajz b a⟩;show((fX 17).map<|wZ x)[j]?=Q (wZ x j);rw[cv,sd b];rfl⟩
 nf:=⟨J,nofun⟩
 ng:=⟨J,nofun⟩
 a:=v
 b:=by refine⟨?_,?_,J,J⟩;show Y ((fX 17).map λj=>x+2*j)=Y e0;rw[AZ];simp;show Y (e8 17<|[])=Y e0;rw[AZ];simp
 nw:=h
def agV(a:lH y):fw y (es y):=by
 let f:∀(j:Nat)d,e0[j]?=Q d->d.f=[]/\d.a=[]/\d.g=.b:=λj h e=>by let g:j<17:=AZ▸(bc.1 e).1;rw[UB g]at e;cases e;exists J,J
 refine⟨⟨?_,λj b c=>?_⟩,nofun,a.e,eL _,λj b c=>?_,λj b _ c=>?_⟩;show Y e0+_<=57;rw[AZ];let i:gj (es y)<=Y y.a:=xJ ..;have:=a.f;omega;rw[(f j b c).1];exact eL _;rw[(f j b c).2.1];exact eL _;exact(f j b c).2.2
def anK{b}(a):am a (EP x u z r n q m p l t s o k b w).nt=am a ([(u,z.nd),(z.a,.c<|im x 17),(r,n),(q,m),(p,l),(o,k),(t,.a [B b,B 0,.h s]),(s,.d 1<|gd 0 b)]++(iF x 17++w)):=by rw[ce];let c:am a (EP x u z r n q m p l t s o k b w).e=am a (iF x 17):=(Ve a 17).symm;rw[c];rw[EP,F.g,F.n];simp only[bb,ba,bG,mK,asC];omega
def anQ{he c a}(hd:Md y i z)(d:z.b=mD)(e:z.g=mD)(f:z.d=mD)(g:z.nc=.a t 0)(h:z.c=y.f)(j:z.h=0)(v:z.e=be)(ha:b1 w z.l)(b:lH y)(hb:1<=y.b)(hc:jd y he (es y)=Q a):D i T 130 [.a u 0,O y.e] c ([(u,z.nd),(z.a,.c<|im x 17),(r,n),(q,m),(p,l),(o,k),(t,.a [B y.d,B 0,.h s]),(s,.d 1<|gd 0 y.d)]++(iF x 17++w)) (λhg _ hf=>∃he c,hg=.c [V he,O c]/\pF y i u a he c hf) H:=D.b (eJ λa=>(anK a).symm)<|anS (anL hd d e f g h j v ha) (Sh y) (agV b) b hb J (eL _) J J J hc
end
def Xh(a:a8)(b c:X)(d e f:Nat):bK:=⟨b,O a.e,c,B a.d,V a.f,B a.b,.f 25 [] [],.f 18 [] [],.d (d+15) 0 33 0,e,mD,mD,.a (f+1) 0,a.f,0,mD,be⟩
def T9(a:Int×ac×ag)(j e d:Nat)(c:bK)(i h:Nat)(b:P)(g f:U):Prop:=f.Perm ([(j,({c with nc:=.a e 0}:bK).nd),(e,.a [B i,B a.2.2.e,.h h]),(d,b)]++g)/\bT 98 3 c.b d b (a.2.2.c.map e5)/\Y a.2.2.c<=400000
section
variable{z:a8}{t:U}{p w r s m l k q u:Nat}{o n:X}{x i h g:P}{y:Int×ac×ag}
def pF.b{e g f}(d:pF z t w y e g f)(h:e=4->y.2.2.e=z.d):y.1=e/\y.2.1=g/\∃i r n u q x o,T9 y w i r n u q x o f:=by
 obtain⟨g,i,rfl,j,rfl,s,v⟩:=d;exists J,J,i.nn,i.ng,i.nv,i.nm,i.nl,i.nf;let l:({i.nv with nc:=.a i.nn 0}:bK)=i.nv:=j.nv▸J;let m:=j.np;rcases v with k|⟨rfl,k⟩;refine⟨(i.nv.a,.c i.d)::(i.nb,i.na)::(i.k,i.nc)::(i.m,i.l)::(i.nl,.d 1<|gd i.nj i.nm)::(i.n++(i.e++(an i.nd++(an i.ni++i.nu)))),eJ λf=>?_,j.n,s⟩;rw[k,ce,l];rw[F.g];rw[m];simp only[bb,ba,bG];omega;let e:gd i.nj i.nm=1:=by rw[gd];rw[aC<|j.np▸j.nx▸h J]
 refine⟨(i.nv.a,.c i.d)::(i.nb,i.na)::(i.k,i.nc)::(i.m,i.l)::(i.nl,.d 1 0)::(i.n++(i.e++(an i.nd++(an i.ni++i.nu)))),eJ λp=>?_,j.n,s⟩;let d:=k p;rw[ce]at d;rw[F.g]at d;rw[e,m]at d;rw[l];simp only[bb,ba,bG]at d⊢;omega
def anV(e:aK t 2 o (z.a.map λha=>[O ha.1,O ha.2]))(f:iQ t n z.c)(v:lH z)(d:1<=z.b)(c:y.1=4->y.2.2.e=z.d)(j:jd z k (es z)=Q y){b a}:D t T 130 [.a w 0,O z.e] b ([(w,(Xh z o n q a u).nd),(a,.c<|im p 17),(r,x),(s,i),(m,h),(l,g),(u+1,.a [B z.d,B 0,.h u]),(u,.d 1<|gd 0 z.d)]++(iF p 17++(gg q++[]))) (λhf _ ha=>∃he hc b hd hb x a,hf=.c [V y.1,O y.2.1]/\T9 y w he hc b hd hb x a ha) H:=by
 refine(anQ ⟨⟨_,e,J⟩,f,J,J,J⟩ J J J J J J J ⟨q,J,λu a=>bS _ a⟩ v d j).a ?_ λ_ b=>b;rintro v f e⟨d,j,rfl,a⟩;let r:y.1=d:=by obtain⟨d,v,rfl,_⟩:=a;rfl
 let⟨b,ha,hb,j,d,v,f,x,e,hc⟩:=a.b<|r▸c;exists hb,j,d,v,f,x,e,b▸ha▸J
end
def L1{n o g d i j l h}{a:U}{f e k m c}(b)(p:br n o g d j l h k m f e i (bp (a.take b++a.drop b) c++a.drop b))(r:c.Nodup:=by decide)(q:c.all (λs=>Nat.blt s<|Y<|a.take b)=K:=by rfl):br n o g d j l h k m f e i a:=by have:=L2 _ r q J p;rwa[mL]at this
structure L7 where
 b:Nat
 a:Nat
 c:Nat
def aks(a:Nat):L7->au|⟨_,_,_⟩=>[(2,.a a 0),(4,.a (a+2) 0),(5,.a (a+22) 0)]
def YE(a:a8)(b c:X):W X:=[b,O a.e,c,B a.d,V a.f,B a.b]
def akt(b:a8)(c d:X)(a:Nat):L7->U|⟨f,g,e⟩=>[(a+22,(Xh b c d f g e).nd),(g,.c []),(a,.a<|YE b c d),(a+1,.a [.f 25 [] [],.f 18 [] []]),(a+2,.a [V 0,O ⟨#[]⟩,ab,V 0]),(e+1,.a [B b.d,B 0,.h e]),(e,.d 1<|gd 0 b.d)]++(gg f++[])
section
variable{x:a8}{w:U}{z s:Nat}{u t:X}{y:Int×ac×ag}
def aku(c:aK w 2 u (x.a.map λl=>[O l.1,O l.2]))(d:iQ w t x.c)(g:lH x)(b:1<=x.b)(f:cY (bf x.e) 4000000=K)(a:y.1=4->y.2.2.e=x.d)(e:jd x s (es x)=Q y):D w T 75 [.b [u,O x.e,t,B x.d,V x.f,B x.b],.b [.f 25 [] [],.f 18 [] []]] z [] (λi _ h=>∃p l m n,i=.b [V y.1,O y.2.1,p,B y.2.2.e]/\bT 98 3 p l m (y.2.2.c.map e5)/\Y y.2.2.c<=400000/\h=(l,m)::n) H:=by refine D.b (o:=[]++[]) (go _) ?_;refine ai func75 7 [] λr=>?_;refine TC (c:=L7) (aks z) (λ_=>z+23) (akt x u t z) ?_ ?_;rintro(⟨p,q,v⟩);apply aa 3 [];refine b7 J 7 4 [0,1] (agU) ?_;rintro _ k _⟨o,j,rfl,rfl,rfl⟩;apply I 7 [4];refine b7 J 9 0 [] ((Hl f).a (t:=λ_=>False)) ?_;rintro _ f _⟨rfl,rfl,rfl⟩;refine dQ J 9 [0,1,4,5,2,3,7,8] (anV c d g b a e) ?_;rintro _ g e⟨v,l,i,b,a,m,n,rfl,d,o,c⟩;exists([((z+22),P.a [i.i,i.n,i.k,i.o,i.na,i.f,i.m,i.nb,i.l,X.g i.a,i.g,i.d,X.a v 0,V i.c,V i.h,i.b,i.e]),(v,P.a [B b,B y.2.2.e,X.h a]),(l,m),((z+2),P.a [V 0,O ⟨#[]⟩,ab,V 0])]++n),((d.append_right _).trans<|((en.cons _).cons _).cons _);apply I 8 [];refine bD (j:=2) bC r ?_;refine aW (hb:=[0,0,1]) (a:=[(13,X.b [V y.1,O y.2.1,i.b,B y.2.2.e])]) (hn:=⟨λ_ _ _=>b6 J (by rcases o with⟨q,_⟩|⟨q,_⟩<;>rw[q]<;>kernel_rfl),C⟩) 14 [0,1,2,3,4,5,6,7,8,9,10,11,12,13] λk j h=>?_;refine dk 3 ?_ (hb:=by simp only[co,cA,bT.c o];rfl);refine h (v:=.c []) ?_;apply bF [];apply aL .a 2 [];apply cg;refine qm (ha:=3) (p1:=[(4,.a 0 0)]) (e:=[.b [V y.1,O y.2.1,i.b,B y.2.2.e]]) 4 [2] (.inr J) aI J ⟨J,C⟩ M ?_;exact⟨i.b,l,m,_,J,o,c,J⟩;refine bD (j:=5) bC r ?_;refine Tl (he:=[2,1,2,2]) 2 3 [0,1,4,5,7,8] (λk j h=>?_)<|λk j h=>?_;refine b7 J 3 0 [] (XS.a (t:=λ_=>False)) ?_;rintro _ _ _⟨rfl,rfl,rfl⟩;refine h ?_;refine Tl (hg:=[2,1,2,2]) 3 6 [] (λk j h=>?_)<|λk j h=>?_;refine eq 1 [] ?_;refine h ?_;refine aW (hc:=[3,2,3,3]) 6 [] λk j h=>?_;refine b7 J 4 2 [] (NR.a (t:=λ_=>False)) ?_;rintro _ _ _⟨rfl,rfl,rfl⟩;refine h ?_;refine aW (hc:=[5,4,5]) 10 [9] λk j h=>?_;refine eq 1 [] ?_;refine h ?_;refine bF [11] ?_;exact L1 (c:=[0,3,6,5,4,1,2]) 7<|DH ⟨z+3,z+19,z+20⟩ ⟨J,J,J,C⟩ J J;refine b7 J 3 2 [] (NR.a (t:=λ_=>False)) ?_;rintro _ _ _⟨rfl,rfl,rfl⟩;refine h ?_;refine aW (hc:=[4,3,4]) 3 [] λk j h=>?_;refine eq 1 [] ?_;refine h ?_;refine aW (hc:=[5,4,5]) 10 [9] λk j h=>?_;refine eq 1 [] ?_;refine h ?_;refine bF [11] ?_;exact L1 (c:=[0,1,6,5,4,2,3]) 7<|DH ⟨z+3,z+21,z+19⟩ ⟨J,J,J,C⟩ J J;refine eq 1 [] ?_;refine h ?_;refine aW (hc:=[3,2,3,3]) 2 [] λk j h=>?_;refine b7 J 4 0 [] (XS.a (t:=λ_=>False)) ?_;rintro _ _ _⟨rfl,rfl,rfl⟩;refine h ?_;refine aW (hc:=[3,2,3,3]) 6 [] λk j h=>?_;refine b7 J 4 2 [] (NR.a (t:=λ_=>False)) ?_;rintro _ _ _⟨rfl,rfl,rfl⟩;refine h ?_;refine aW (hc:=[5,4,5]) 10 [9] λk j h=>?_;refine eq 1 [] ?_;refine h ?_;refine bF [11] ?_;exact L1 (c:=[0,3,6,5,4,1,2]) 7<|DH ⟨z+4,z+3,z+20⟩ ⟨J,J,J,C⟩ J J
end
section
variable{y:au}{x:Oper}{s r:Nat}{w u:Operand}{z t:Int}{q:aD}
def zc(b:x.op=.binOp .neq s w u r)(c:al y w=Q (V z))(d:al y u=Q (V t))(a:z=t):eb q y dT x=Q (R N):=by subst a;rw[eb,dt];rw[b];simp only[c,d,qy,sO,show ao z z=K from dc.2 J];rfl
end
section
def Ed(a:W dX):∀b∈a.map e5,Y b=3:=λd c=>by obtain⟨_,_,rfl⟩:=cw.1 c;rfl
end
def pk(d:Nat)(b c a:Int):aJ:=!(aF 40<|.ofNat d)&&!(aF b 0)&&!(aF 5000 b)&&!(aF c 0)&&!(aF 10000 c)&&!(aF a 1)&&!(aF 60 a)
section
variable{u:U}{r:Nat}{t s:X}{q:ac}{z y w:Int}{x:W (W X)}
def WE(a:aK u 2 t x)(b:aB s=K):bZ u T 72 [.b [t,O q,s,V z,V y,V w]] (λd=>d=R (pk (Y x) z y w)) H:=by rw[pk];refine bZ.a (λr=>?_) (λ_ c _ _=>by rw[c];rfl);refine ai func72 10 [0] λe=>?_;refine ck (b:=Y x) a J<|I 2 [] ?_;cases f:(!(aF 40<|.ofNat<|Y x));refine I 33 []<|af [] J ?_;show R _=R _;simp only[*,qW,qa,sf,xU];apply I 5 [0];cases g:(!(aF z 0));refine I 28 []<|af [] J ?_;show R _=R _;simp only[*,qW,qa,sf,xU];apply I 5 [0];cases h:(!(aF 5000 z));refine I 23 []<|af [] J ?_;show R _=R _;simp only[*,qW,qa,sf,xU];apply I 5 [0];cases i:(!(aF y 0));refine I 18 []<|af [] J ?_;show R _=R _;simp only[*,qW,qa,sf,xU];apply I 5 [0];cases j:(!(aF 10000 y));refine I 13 []<|af [] J ?_;show R _=R _;simp only[*,qW,qa,sf,xU];apply I 5 [0];cases k:(!(aF w 1));refine I 8 []<|af [] J ?_;show R _=R _;simp only[*,qW,qa,sf,xU];refine I 8 [0]<|af [] J ?_;show R _=R _;simp only[*,qW,qa,sf,xU]
end
def GZ(a:Int×ac×ag)(c:X)(b:U):Prop:=∃f e d g,c=.b [V a.1,O a.2.1,f,B a.2.2.e]/\bT 98 3 f e d (a.2.2.c.map e5)/\Y a.2.2.c<=400000/\b=(e,d)::g
section
variable{z:a8}{w s:U}{x r q p:Nat}{u t:X}{y:Int×ac×ag}
def anR(c:aK w 2 u (z.a.map λh=>[O h.1,O h.2]))(d:iQ w t z.c)(g:lH z)(b:1<=z.b)(f:cY (bf z.e) 4000000=K)(a:y.1=4->y.2.2.e=z.d)(e:jd z r (es z)=Q y)(x:Nat):D ([(q,.a<|YE z u t),(p,.a [.f 25 [] [],.f 18 [] []])]++w) T 74 [.a q 0,.a p 0] x [] (λs _ m=>GZ y s m) H:=by refine ai func74 7 [] λj=>?_;refine fp (v:=.b [u,O z.e,t,B z.d,V z.f,B z.b]) j J J J (bS _<|.head _) M J<|fp (v:=.b [.f 25 [] [],.f 18 [] []]) j J J J (bS _<|.tail _<|.head _) M J<|b7 J 1 1 [] (aku c d g b f a e) (he:=λb o=>.inl<|bo _ o) ?_;rintro _ v _⟨i,h,l,a,rfl,k,n,rfl⟩;refine dk 1 ?_ (hb:=by simp only[co,cA,k.c];rfl);refine I 3 []<|cg<|qm (ha:=1) (p1:=[(2,.a 0 0)]) (e:=[.b [V y.1,O y.2.1,i,B y.2.2.e]]) 2 [0] (.inr J) aI J ⟨J,C⟩ M ?_;exact⟨i,h,l,_,J,k,n,J⟩
def ahg{b:FuncId}{a:W X}(c:∀x,D s T b a x [] (λl _ i=>GZ y l i) H):D s T 73 [.f b [] a] x [] (λm _ j=>∃v,m=.c [v,bN]/\GZ y v j) H:=by refine ai func73 9 [] λo=>?_;refine GI J J J J J<|I 5 [] ?_;refine b7 J 2 1 [] (c _) ?_;rintro _ n _⟨d,f,e,g,rfl,h,k,rfl⟩;refine g3 (m:=2) (i:=4) (a:=[V y.1,O y.2.1,d,B y.2.2.e]) ([(f,e),((x+1),P.a [bN]),(x,P.a [V y.1,O y.2.1,d,B y.2.2.e])]++(g++[])) J J J J J J M J J (by simp only[co,cA,h.c];rfl) (ez J) J ?_;refine g3 (m:=1) (i:=1) (a:=[bN]) ([(f,e),((x+1),P.a [bN]),(x,P.a [V y.1,O y.2.1,d,B y.2.2.e])]++(g++[])) J J J J J J M J J (by simp only[co,cA,h.c];rfl) (ez J) J ?_;apply I 3 [];apply cg;refine TW (a:=2) (j:=1) (g:=[(2,.a 0 0),(3,.a 1 0)]) (he:=[.b [V y.1,O y.2.1,d,B y.2.2.e],bN]) (.inr J) aI D9 J J J A lS M (En (a:=[(f,e),((x+1),.a [bN]),(x,.a [V y.1,O y.2.1,d,B y.2.2.e])]) (b:=(g++[])) [0] A) ?_;exact⟨_,J,d,f,e,_,J,h,k,J⟩
def agQ(a:aK w 2 u (z.a.map λj=>[O j.1,O j.2]))(b:iQ w t z.c)(h:lH z)(e:1<=z.b)(d:pk (Y z.a) (.ofNat z.d) z.f (.ofNat z.b)=K)(g:cY (bf z.e) 4000000=K)(c:y.1=4->y.2.2.e=z.d)(f:jd z r (es z)=Q y):D w T 34 [.b [u,O z.e,t,B z.d,V z.f,B z.b]] x [] (λi _ o=>∃v,i=.c [v,V 0]/\GZ y v o) H:=by let m:=WE (q:=z.e) (z:=.ofNat z.d) (y:=z.f) (w:=.ofNat z.b) a b.a;rw[bk,d]at m;refine ai func34 11 [1] λd=>?_;refine a2 J (m) ?_;rintro _ rfl;apply I 16 [0];refine b7 J 3 1 [] (ahg<|anR a b h e g c f) (he:=λe s=>(dl.1 s).elim (λl=>.inr (by simp only[cB,vL,or_false]at l;rcases l with rfl|rfl;exact bl (i:=2) J;exact bl (i:=0) J)) .inl) ?_;rintro _ a _⟨_,rfl,k,p,n,c,rfl,i,q,rfl⟩;apply I 4 [];refine dk 0 ?_ (hb:=by simp only[co,cA,i.c];rfl);apply I 6 [];refine b7 J 5 0 [] (apD.a (t:=λ_=>False)) ?_;rintro _ b _⟨rfl,_,rfl⟩;apply I 12 [0,1];refine dk 4 ?_ (hb:=by simp only[co,cA,i.c];rfl);apply I 4 [];apply cg;refine qm (ha:=4) (p1:=[(2,.a 0 0),(3,dd<|V 0)]) (e:=[.b [V y.1,O y.2.1,k,B y.2.2.e],V 0]) 6 [2] (.inr J) aI J ⟨J,by rw[iu (by rw[bi];simp)];rfl,C⟩ M ?_;exact⟨_,J,k,p,n,_,J,i,q,J⟩
def agP{e:W (W X)}{d:ac}{b c a:Int}(h:aK w 2 u e)(f:aB t=K)(g:pk (Y e) b c a=N):D w T 34 [.b [u,O d,t,V b,V c,V a]] x [] (λk _ j=>k=.c [.b [V 0,O ⟨#[]⟩,mD,V 0],V 3]/\j=[]) H:=by let i:=WE (q:=d) (z:=b) (y:=c) (w:=a) h f;rw[g]at i;refine ai func34 11 [1] λl=>?_;refine a2 J (i) ?_;rintro _ rfl;refine I 13 [0]<|cg ?_;refine g4 (hb:=0) (m:=[(2,.a 0 0),(3,dd<|V 3)]) (e:=[.b [V 0,O ⟨#[]⟩,ab,V 0],V 3]) [] (.inr J) aI J ⟨J,by rw[iu (by rw[bi];simp)];rfl,C⟩ M A<|av
end
def rV(b:List (ByteArray×ByteArray))(f:ByteArray)(e:List Int)(c d a:Int):a8:=⟨b,f,e,ad c,d,ad a⟩
structure Ua(c)(e)(f:ByteArray)(g:Int)(d:List dX):Prop where
 a:∃h b,jd c h (es c)=Q (e,f,b)/\C7 c (e,f,b)/\g=.ofNat b.e/\d=b.c/\Y d<=400000
def DR(b:W (ac×ac))(i:ac)(h:W Int)(c d a j:Int)(k:ac)(f:Int)(g:W dX)(e:Int):Prop:=(pk (Y b) c d a=N/\e=3)\/(pk (Y b) c d a=K/\e=0/\Ua (rV b i h c d a) j k f g)
def bT.e{j l g v h k}(m:bT j l v g h k)(i:U):∃n o,pC j l v n k/\(g,h)::i=n++o:=by rcases m with⟨rfl,rfl⟩|⟨rfl,rfl⟩;exact⟨[],_,.inl bq,J⟩;exists[(g,_)],i,.inr ⟨g,J,J⟩
def kI{a c d b}(e:pk a c d b=K):a<=40/\0<=c/\c<=5000/\0<=d/\d<=10000/\1<=b/\b<=60:=by rw[pk]at e;simp only[cQ,zJ,<-mf,dK]at e;have:((.ofNat a))=(a:Int):=rfl;omega
section
variable{s:U}{r:Nat}{q p:X}{x:W (ac×ac)}{u:ac}{t:W Int}{y w z:Int}
def anb(a):Ac a λ_=>True:=⟨λ_ _ _ _ _ _ _=>C,λ_ _ _ _ _ _=>C,λ_ _ _ _ _=>C,λ_ _ _ _=>C⟩
def DZ(a:aK s 2 q (x.map eD))(b:iQ s p t)(e:∀l∈x,bf l.2<=4000000)(c:Y t<=2000000)(d:bf u<=4000000):D s T 34 [.b [q,O u,p,V y,V w,V z]] r [] (λo _ m=>∃(f:Int)(j:ac)(k:X)(h i:Int)(l:W dX)(g n:U),o=.c [.b [V f,O j,k,V h],V i]/\pC 98 3 k g (l.map e5)/\DR x u t y w z f j h l i/\m=g++n) H:=by cases f:pk (Y x) y w z with|false=>refine(agP a b.a (by rwa[bk])).a ?_ λ_ o=>o;rintro g n k⟨rfl,rfl⟩;exists 0,_,_,0,3,[],[],[],J,.inl bq,.inl ⟨f,J⟩|true=>let⟨g,h,j,k,i,l,m⟩:=kI f;let j:(.ofNat<|ad y)=y:=sc h;let k:(.ofNat<|ad z)=z:=sc L;let h:lH (rV x u t y w z):=⟨g,e,by show ad y<=5000;omega,i,by show ad z<=60;omega,c⟩;obtain⟨⟨i,l,ha⟩,n,o,-⟩:=R8 (rV x u t y w z) (anb _) C<|FD _;let m:=agQ (x:=r) a b h (by show 1<=ad z;omega) (by show pk (Y x) (.ofNat<|ad y) w (.ofNat<|ad z)=K;rwa[j,k]) (gU d) o.b n;let d:(B (rV x u t y w z).d)=V y:=b9 (λb=>V b) j;let e:(B (rV x u t y w z).b)=V z:=b9 (λc=>V c) k;rw[d,e]at m;refine m.a ?_ λ_ a=>a;rintro e a m⟨v,rfl,d,b,j,c,rfl,h,g,rfl⟩;let⟨a,b,e,j⟩:=h.e c;exists i,l,d,_,0,_,a,b,J,e,.inr ⟨f,J,⟨_,ha,n,o,J,J,g⟩⟩
end
section
variable{z:U}
def Mx:bZ z T 24 [] (λa=>a=R K) H:=anq ⟨_,func24,J⟩ λb=>agX b
end
def Jh{e:Type}{c:W e}{d:e->aJ}{b:Nat}{a:e}(f:∀a∈c.take b,d a=N)(h:c[b]?=Q a)(g:d a=N):∀a∈c.take (b+1),d a=N:=λk j=>by rw[FA,h]at j;rcases dl.1 j with i|i;exact f k i;cases eY.1 i;exact g
def afX(a:aD)(c:P)(b:Nat)(d:W X):Prop:=∀{e j:Nat}{f},d[j]?=Q f->sV a e=Q N->hB a (cm<|a6 c) e (Q<|.a 0<|b+j)=Q (dd f)
def aK.g{m n k h v o i}(p:aK n k v o)(l:o[h]?=Q i):∃q x y,yq m n v h k i q x y/\afX m y x i:=by
 rcases p with⟨rfl,_⟩|⟨m,w,j,ha,n,rfl,x,t,_,r⟩;cases l;let⟨o,s⟩:=r h i l;let u:∀{j z},i[j]?=Q z->n[w+h*k+j]?=Q z:=λ{j i}q=>by rw[<-s]at q;rw[aR]at q;rw[pW,xI]at q;split at q;exact q;cases q
 refine⟨m,w+h*k,ha,⟨x,λp i y z=>fi p i y z (bc.1 l).1,λr w=>?_,λh r=>?_⟩,λk r=>NF r t<|u k⟩;rw[<-s];exact xa r w t<|s▸o;subst h;exact NF r t<|u (j:=0) J
