/- What is proved here: OnceUptoSaid: for all classes and each script of bulk at most 1048576 the statement Once gives true, and they read behind the call as they read before. -/
import Derived.Test.YtpofmnfkdkmieaaGreatG08
import Derived.Test.YtpofmnfkdkmieaaGreatG09
set_option linter.all false
open Array renaming toList->aG
open Bool renaming false->N,true->K
open ByteArray renaming mk->iK
open Classical renaming choose_spec->CH
open Decidable renaming decide->cj
open Go renaming joinedFacts->Fs
open Go.ChangeShapes renaming trodAll_cons->uD
open Go.OpenClaim renaming holds_of_cond->QF
open Go.OpenSpec renaming witness->QG
open Go.Proofs.Tryz renaming f11->tj,func11->QK,prog->T
open Go.RowKit.Below renaming trod->vG
open Go.Value renaming okWide->xB
open List renaming length->Y
open List.Sublist renaming refl->jv
open Option renaming none->Z,some->Q
open Option.some renaming inj->cx
open Prod.mk renaming injEq->xQ
set_option maxRecDepth 100000
set_option maxHeartbeats 4000000
noncomputable section
namespace Go.Proofs.YtpofmnfkdkmieaaGreat
open Go.Proofs.Tryz Go Go.ChangeAt Go.ChangeShapes Go.RowKit Go.WideShapes
section
variable{y:Program}{z:au}{x:Oper}{w r:Nat}{u t:Operand}{s:ac}
def akH(a:x.op=.binOp .eql w u t r)(b:y.underlying w=Q .string)(c:al z u=Q (O s))(d:al z t=Q (O s)):eb y z dT x=Q (R K):=by rw[ey a b c d];simp[aM]
end
def dr(c:List dX)(b:Int)(d:ByteArray):Prop:=∃a∈c,a.a=b/\a.b=d
def sn(d:List dX)(b:Nat)(c:Int)(e:ByteArray):Prop:=∃j a,j<=b/\d[j]?=Q a/\a.a=c/\a.b=e
def uK(a:ac):Prop:=∀b,b<17->hL[b]?.getD bU≠a
structure RH(i:a8)(f:List dX)(e:Nat)(d:dX):Prop where
 c:d.c=0
 b:∀j h,f[j]?=Q h->h.a=d.a->h.b=d.b->e<=j
 a:d.a≠2->sn f e 2 d.b/\sn f e 3 d.b/\∃g,gK i d.b=.ok g/\(d.a=3->sn f e 3 g.b\/¬uK g.b)
structure wk(i)(e):Prop where
 b:∀h g,e[h]?=Q g->g.a≠1->RH i e h g
 c:∀f,¬(dr e 4 f/\dr e 5 f)
 d:∀f,dr e 2 f->uK f
section
variable{t:a8}{y:W dX}{z:dX}{w:Int}{x:ac}{u:Nat}
def qk:dr (y++[z]) w x↔dr y w x\/(z.a=w/\z.b=x):=by constructor;rintro⟨e,g,c,d⟩;rcases dl.1 g with a|a;exact .inl ⟨e,a,c,d⟩;cases eY.1 a;exact .inr ⟨c,d⟩;rintro(⟨f,b,h⟩|b);exists f,bS _ b;exists z,bo _ (.head _)
def Gu(a:z.a≠w):dr (y++[z]) w x↔dr y w x:=qk.trans ⟨λb=>b.resolve_right λc=>a c.1,.inl⟩
def LL(a:z.b≠x):dr (y++[z]) w x↔dr y w x:=qk.trans ⟨λb=>b.resolve_right λc=>a c.2,.inl⟩
def sn.a(b:sn y u w x):sn (y++[z]) u w x:=by let⟨j,d,e,c,f⟩:=b;exists j,d,e,gh (bc.1 c).1▸c
def dr.a(b:dr y w x):sn (y++[z]) (Y y) w x:=let⟨e,f,g⟩:=b;let⟨j,c⟩:=CD f;have d:=(bc.1 c).1;⟨j,e,aaQ d,by rw[gh d];exact c,g⟩
def adH(a:z.a=w)(b:z.b=x):sn (y++[z]) (Y y) w x:=⟨Y y,z,bd _,by rw[md<|bd _,zE];rfl,a,b⟩
def wk.a(e:wk t y)(f:z.a≠1->z.c=0/\¬dr y z.a z.b/\(z.a≠2->dr y 2 z.b/\(dr y 3 z.b\/z.a=3)/\∃l,gK t z.b=.ok l/\(z.a=3->dr y 3 l.b\/¬uK l.b)))(h:z.a=4->¬dr y 5 z.b)(i:z.a=5->¬dr y 4 z.b)(g:z.a=2->uK z.b):wk t (y++[z]):=by
 refine⟨λu k n hd=>?_,λx=>?_,λx hc=>?_⟩;rcases dy u (Y y)with hb|hb;rw[gh hb]at n;let⟨o,q,he⟩:=e.b u k n hd;refine⟨o,λj p r s k=>?_,λha=>?_⟩;rcases dy j (Y y)with o|o;rw[gh o]at r;exact q j p r s k;omega;let⟨v,w,l,m,hf⟩:=he ha;exact⟨v.a,w.a,l,m,λq=>(hf q).imp sn.a id⟩;rw[md hb]at n;have hb:u=Y y:=by have:=(bc.1 n).1;simp only[fB]at this;omega
 subst hb;rw[zE]at n;cases n;let⟨v,w,m⟩:=f hd;refine⟨v,λj p r s k=>?_,λha=>?_⟩;rcases dy j (Y y)with o|o;rw[gh o]at r;exact aE ⟨p,bl r,s,k⟩ w;exact o;let⟨n,r,l,v,w⟩:=m ha;exact⟨n.a,r.elim dr.a λq=>adH q J,l,v,λq=>(w q).imp dr.a id⟩;rintro⟨k,m⟩;rcases qk.1 k with k|⟨f,rfl⟩;rcases qk.1 m with m|⟨s,rfl⟩;exact e.c x ⟨k,m⟩;exact i s k;rcases qk.1 m with m|⟨s,_⟩;exact h f m;rw[f]at s;cases s;rcases qk.1 hc with hc|⟨p,rfl⟩;exact e.d x hc;exact g p
end
def jE(a:dg):ac×W Nat×dM×Af:=(a.d,a.b,a.c,a.g)
def ag.n(j:ag):W Nat:=j.b.filterMap (·.b)
structure cs(w:a8)(q:ag)(v:List Nat):Prop where
 nj:wk w q.c
 e:∀u,dr q.c 2 u->b5 q.d u≠Z
 l:∀(p:Nat)j,17<=p->q.a[p]?=Q j->gK w j.d=.ok j.c/\dr q.c 2 j.d/\b5 q.d j.d≠Q (.a cL)/\∃s x t,j.b=p::s::x/\q.a[s]?=Q t/\t.d=j.c.b
 na:∀(p s:Nat)j t,17<=p->17<=s->q.a[p]?=Q j->q.a[s]?=Q t->j.d=t.d->p=s
 n:∀(p:Nat)j,17<=p->q.a[p]?=Q j->(j.g=.c->∀r,r=3\/r=4\/r=5->¬dr q.c r j.d)/\(j.g=.b->dr q.c 3 j.d)
 nb:∀(p:Nat)j,p<17->q.a[p]?=Q j->j.g=.b
 nd:∀r u,(r=3\/r=4\/r=5)->dr q.c r u->∃(p:Nat)(j:dg),17<=p/\q.a[p]?=Q j/\j.d=u
 ne:v.Nodup
 m:∀p∈v,17<=p/\∃j,q.a[p]?=Q j/\j.g≠.c/\dr q.c 3 j.d/\¬dr q.c 4 j.d/\¬dr q.c 5 j.d
section
variable{x:a8}{y z:ag}{w u:W Nat}
def wu(c:z.a.map jE=y.a.map jE){a:Nat}{b}(d:z.a[a]?=Q b):∃e,y.a[a]?=Q e/\jE e=jE b:=by let f:=b9 (λj:W _=>j[a]?) c;simp only[cv,d,dD]at f;let⟨g,i,h⟩:=b3.1 f.symm;exact⟨g,i,h⟩
def cs.nf(j:cs x y w)(s:z.d=y.d)(q:∀v ha,v≠1->(dr z.c v ha↔dr y.c v ha))(t:wk x z.c)(p:z.a.map jE=y.a.map jE)(r:u.Sublist w):cs x z u:=by refine⟨t,λhd hf=>?_,λv ha hp t=>?_,λv he hb hc ht hu hi t ha=>?_,λv hb hg t=>?_,λv hb hg t=>?_,λhc hd hb hh=>?_,j.ne.sublist r,λv hw=>?_⟩;rw[s];exact j.e hd<|(q 2 hd A).1 hf;let⟨hf,hi,ha⟩:=wu p t;unfold jE at ha;simp only[xQ]at ha;let⟨hq,hr,hs,hj⟩:=ha;let⟨hj,hk,hl,he,hx,hv,hm,hn,ho⟩:=j.l v hf hp hi;let⟨hp,hv,hf⟩:=wu p.symm hn;unfold jE at hf;simp only[xQ]at hf;rw[<-hq,<-hs,<-hr,s];exact⟨hj,(q 2 _ A).2 hk,hl,he,hx,hp,hm,hv,hf.1.trans ho⟩;let⟨s,hk,hj⟩:=wu p hi;let⟨hf,hl,hi⟩:=wu p t;exact j.na v he s hf ht hu hk hl<|(b9 (·.1) hj).trans<|ha.trans (b9 (·.1) hi).symm;let⟨ha,hj,s⟩:=wu p t;unfold jE at s;simp only[xQ]at s;let⟨hf,he,hk,hi⟩:=s;let⟨s,he⟩:=j.n v ha hg hj;rw[<-hf,<-hi];exact⟨λha hc hb hh=>s ha hc hb<|(q hc _ (by rcases hb with rfl|rfl|rfl<;>decide)).1 hh,λhf=>(q 3 _ A).2<|he hf⟩;let⟨ha,he,s⟩:=wu p t;unfold jE at s;simp only[xQ]at s;rw[<-s.2.2.2];exact j.nb v ha hg he;let⟨v,t,ha,he,hf⟩:=j.nd hc hd hb<|(q hc hd (by rcases hb with rfl|rfl|rfl<;>decide)).1 hh;let⟨t,hb,s⟩:=wu p.symm he;exact⟨v,t,ha,hb,(b9 (·.1) s).trans hf⟩;let⟨ha,he,t,s,hb,hc,hd⟩:=j.m v<|r.subset hw;let⟨v,he,r⟩:=wu p.symm t;unfold jE at r;simp only[xQ]at r;let⟨p,hf,hg,t⟩:=r;refine⟨ha,v,he,by rw[t];exact s,?_,?_,?_⟩;rw[p];exact(q 3 _ A).2 hb;rw[p];exactλr=>hc<|(q 4 _ A).1 r;rw[p];exactλr=>hd<|(q 5 _ A).1 r
def cs.b(j:cs x y w)(s:z.d=y.d)(p:z.c=y.c)(r:z.a.map jE=y.a.map jE)(q:u.Sublist w):cs x z u:=j.nf s (λt v _=>by rw[p]) (by rw[p];exact j.nj) r q
def cs.ni(j:cs x y w){q}(t:z.d=y.d)(p:z.c=y.c++[⟨1,q,bU⟩])(s:z.a.map jE=y.a.map jE)(r:u.Sublist w):cs x z u:=by refine j.nf t (λv ha q=>by rw[p];exact Gu<|λv=>q v.symm) ?_ s r;rw[p];exact j.nj.a (λp=>aE J p) (λq=>aE q (by show¬(1:Int)=4;decide)) (λr=>aE r (by show¬(1:Int)=5;decide))<|λs=>aE s (by show¬(1:Int)=2;decide)
end
section
variable{w:a8}{y:ag}{u:W Nat}{z:Nat}{x:dg}
def Ao{a}(b:a[z]?=Q x):bW a z=x.d:=by rw[bW];rw[b]
def cs.g(j:cs w y (z::u)){p}(q:p=4\/p=5):cs w (bX y p 0<|bW y.a z) u:=by
 let⟨hg,x,he,ho,hp,hi,hj⟩:=j.m z<|.head _;rw[Ao he];let⟨hl,hm,r,s⟩:=j.l z x hg he;have hf:p≠1/\p≠2/\p≠3:=by rcases q with rfl|rfl<;>decide
 have hk:∀{v hd},v≠p->(dr (y.c++[⟨p,0,x.d⟩]) v hd↔dr y.c v hd):=λhc=>Gu λha=>hc ha.symm;have hh:∀{v s t},17<=s->y.a[s]?=Q t->s≠z->(dr (y.c++[⟨p,0,x.d⟩]) v t.d↔dr y.c v t.d):=λhb r hn=>LL λha=>hn<|j.na _ _ _ _ hb hg r he ha.symm;have hn:¬dr y.c p x.d:=by rcases q with rfl|rfl;exact hi;exact hj
 refine⟨j.nj.a (λ_=>⟨J,hn,λ_=>⟨hm,.inl hp,x.c,hl,λha=>aE ha hf.2.2⟩⟩) (λ_=>hj) (λ_=>hi)<|λha=>aE ha hf.2.1,λhd p=>j.e hd<|(hk hf.2.1.symm).1 p,λs t hb r=>?_,j.na,λs t hb r=>?_,j.nb,λv hd hj hi=>(qk.1 hi).elim (j.nd v hd hj) λhc=>⟨z,x,hg,he,hc.2⟩,(gi.1 j.ne).2,λs hb=>?_⟩;let⟨q,hd,hl⟩:=j.l s t hb r;exists q,(hk hf.2.1.symm).2 hd;have r:y.a[s]?=Q t:=r;let⟨q,hd⟩:=j.n s t hb r;refine⟨λhg v hj hi=>?_,λhg=>(hk hf.2.2.symm).2<|hd hg⟩;by_cases p:s=z;subst p;rw[he]at r;cases r;exact ho hg;exact q hg v hj<|(hh hb r p).1 hi;let⟨v,t,r,q,hd,hl,he⟩:=j.m s<|.tail _ hb;have p:s≠z:=λha=>(gi.1 j.ne).1<|ha▸hb;exact⟨v,t,r,q,(hh v r p).2 hd,λhc=>hl<|(hh v r p).1 hc,λhc=>he<|(hh v r p).1 hc⟩
def tv{v b a}(c:(dn y z v).a[b]?=Q a):∃d,y.a[b]?=Q d/\a.d=d.d/\a.b=d.b/\a.c=d.c/\(b≠z->a.g=d.g)/\(b=z->a.g=v):=by
 have c:(y.a.modify z λb=>{b with g:=v})[b]?=Q a:=c;rw[qT]at c;let⟨d,g,e⟩:=b3.1 c;exists d,g;by_cases f:z=b;have e:{d with g:=v}=a:=by subst f;simpa using e
 rw[<-e];exact⟨J,J,J,λc=>aE f.symm c,λ_=>rfl⟩;have e:d=a:=by simpa[f]using e
 rw[<-e];exact⟨J,J,J,λ_=>rfl,λc=>aE c.symm f⟩
def uL{v a b}(c:y.a[a]?=Q b):∃d,(dn y z v).a[a]?=Q d/\d.d=b.d/\(a≠z->d.g=b.g)/\(a=z->d.g=v):=by show∃f,(y.a.modify z λa=>{a with g:=v})[a]?=Q f/\_;rw[qT,c];by_cases e:z=a;exact⟨{b with g:=v},by subst e;simp,J,λc=>aE e.symm c,λ_=>rfl⟩;exact⟨b,by simp[e],J,λ_=>rfl,λc=>aE c.symm e⟩
def cs.ng(j:cs w y u)(p:17<=z):cs w (dn y z .a) u:=by
 refine⟨j.nj,j.e,λq hb x t=>?_,λq hn hb h4 x hy t hv h0=>?_,λq hb x t=>?_,λq hb x t=>?_,(λh1 h2 hz hu=>by obtain⟨q,hb,hr,hs,ht⟩:=j.nd h1 h2 hz hu;obtain⟨r,hc,hd,_⟩:=uL hs;exact⟨q,r,hr,hc,hd.trans ht⟩),j.ne,λq x=>?_⟩;·obtain⟨r,v,s,he,hh,_⟩:=tv t;obtain⟨hc,hd,hi,hm,h3,h5,hj,hp,hq⟩:=j.l q r x v;obtain⟨hl,hx,ha,_⟩:=uL hp;rw[s,he,hh];exact⟨hc,hd,hi,hm,h3,hl,hj,hx,ha.trans hq⟩
 ·obtain⟨r,v,s,_⟩:=tv t;obtain⟨hk,hw,he,_⟩:=tv hv;exact j.na q hn r hk x hy v hw<|s▸he▸h0
 ·obtain⟨r,v,s,he,hh,ha,hg⟩:=tv t;obtain⟨hc,hd⟩:=j.n q r x v;by_cases hf:q=z;(·rw[hg hf];exact⟨nofun,nofun⟩);·rw[ha hf,s];exists hc
 ·obtain⟨r,v,s,he,hh,ha,hg⟩:=tv t;rw[ha L];exact j.nb q r x v
 ·obtain⟨ho,r,v,hc,hd,hi,hj⟩:=j.m q x;obtain⟨hb,t,s,ha,hg⟩:=uL v;refine⟨ho,hb,t,?_,s▸hd,s▸hi,s▸hj⟩;by_cases hf:q=z;(·rw[hg hf];exact nofun);·rwa[ha hf]
def SH{v}:bW (dn y z v).a z=bW y.a z:=by cases a:y.a[z]? with|none=>(have:(dn y z v).a[z]?=Z:=by show(y.a.modify z _)[z]?=Z;rw[qT,a];rfl);unfold bW;rw[a,this]|some x=>obtain⟨d,c,b,_⟩:=uL a;rw[Ao a,Ao c,b]
def cs.nc(j:cs w y (z::u)):cs w (eW y z) u:=by let p:=(j.ng (j.m z<|.head _).1).g<|.inr J;rwa[SH]at p
def cs.o(j:cs w y u)(q:17<=z)(p:y.a[z]?=Q x)(r:x.g=.c)(s:dr y.c 3 x.c.b\/¬uK x.c.b):cs w (bX (dn y z .b) 3 0<|bW y.a z) (z::u):=by
 rw[Ao p];obtain⟨h1,h2,kn,ko⟩:=j.l z x q p;obtain⟨hw,-⟩:=j.n z x q p;have kg:=hw r 3<|.inl J;have kh:=hw r 4<|.inr<|.inl J;have ki:=hw r 5<|.inr<|.inr J;have hq:∀{hi hj},hi≠3->(dr (y.c++[⟨3,0,x.d⟩]) hi hj↔dr y.c hi hj):=λv=>Gu λhf=>v hf.symm;have kj:∀{hi t he},17<=t->y.a[t]?=Q he->t≠z->(dr (y.c++[⟨3,0,x.d⟩]) hi he.d↔dr y.c hi he.d):=λhd ha ke=>LL λhf=>ke<|j.na _ _ _ _ hd q ha p hf.symm;have hx:∀{hi hj},dr y.c hi hj->dr (y.c++[⟨3,0,x.d⟩]) hi hj:=λv=>qk.2<|.inl v;refine⟨j.nj.a (λ_=>⟨J,kg,λ_=>⟨h2,.inr J,x.c,h1,λ_=>s⟩⟩) (λhf=>aE hf (by show¬(3)=4;decide)) (λhf=>aE hf (by show¬(3)=5;decide))<|λhf=>aE hf (by show¬(3)=2;decide),λhj kf=>j.e hj<|(hq A).1 kf,λt he hd ha=>?_,λt hf he kl hd kc ha h9 kd=>?_,λt he hd ha=>?_,λt he hd ha=>?_,(λhv hj hu hp=>by rcases qk.1 hp with hp|⟨_,rfl⟩;obtain⟨t,he,h6,h7,h8⟩:=j.nd hv hj hu hp;obtain⟨hg,hh,hl,_⟩:=uL h7;exact⟨t,hg,h6,hh,hl.trans h8⟩;obtain⟨hg,hh,hl,_⟩:=uL p;exists z,hg,q,hh),?_,λt hd=>?_⟩;·obtain⟨hg,hc,hb,hn,hr,_⟩:=tv ha;obtain⟨hh,hl,hs,h0,kk,km,ht,h4,h5⟩:=j.l t hg hd hc;obtain⟨hz,kb,hk,_⟩:=uL h4;rw[hb,hn,hr];exact⟨hh,hx hl,hs,h0,kk,hz,ht,kb,hk.trans h5⟩
 ·obtain⟨hg,hc,hb,_⟩:=tv ha;obtain⟨hy,ka,hn,_⟩:=tv h9;exact j.na t hf hg hy hd kc hc ka<|hb▸hn▸kd
 ·obtain⟨hg,hc,hb,hn,hr,hk,ho⟩:=tv ha;obtain⟨hh,hl⟩:=j.n t hg hd hc;by_cases hm:t=z;(·rw[ho hm];refine⟨nofun,λ_=>?_⟩;subst hm;rw[p]at hc;cases hc;rw[hb];exact qk.2<|.inr ⟨J,J⟩);·rw[hk hm,hb];exact⟨λv hv hu hp=>hh v hv hu<|(kj hd hc hm).1 hp,λv=>hx<|hl v⟩
 ·obtain⟨hg,hc,hb,hn,hr,hk,ho⟩:=tv ha;rw[hk L];exact j.nb t hg hd hc
 ·refine gi.2 ⟨λv=>?_,j.ne⟩;obtain⟨_,he,ha,hh,_⟩:=j.m z v;rw[p]at ha;cases ha;exact hh r
 ·rcases cB.1 hd with rfl|hd;(·obtain⟨he,ha,hb,hk,ho⟩:=uL p;refine⟨q,he,ha,ho J▸nofun,?_,?_,?_⟩;(·rw[hb];exact qk.2<|.inr ⟨J,J⟩);(·rw[hb];exactλv=>kh<|(hq A).1 v);·rw[hb];exactλv=>ki<|(hq A).1 v);·obtain⟨h3,hg,hc,hh,hl,hs,ht⟩:=j.m t hd;(have hm:t≠z:=λhf=>by subst hf;rw[p]at hc;cases hc;exact hh r);obtain⟨he,ha,hb,hk,ho⟩:=uL hc;exact⟨h3,he,ha,hk hm▸hh,hb▸hx hl,by rw[hb];exactλv=>hs<|(hq A).1 v,by rw[hb];exactλv=>ht<|(hq A).1 v⟩
end
section
variable{x:a8}{z:ag}{w:W Nat}{y:ac}{u:dx}
def adq(c:bj z){a}(b:a<17):b5 z.d (hL[a]?.getD bU)=Q (.b a):=by
 let⟨k,f,g,h,i,_⟩:=c.a.b a b;let d:=c.f a b;rw[Ao g,i]at d;let j:f.d=hL[a]?.getD bU:=by let e:=Da b;rw[bW]at e;rwa[h]at e
 rwa[j]at d
def cs.f(j:cs x z w)(p:b5 z.d y=Q (.a cL)):cs x {z with d:=eu z.d y u} w:=by let hb:∀(s:Nat)q,17<=s->z.a[s]?=Q q->q.d≠y:=λr q v t s=>(j.l r q v t).2.2.1<|s▸p;refine⟨j.nj,λq s=>?_,λt r p v=>?_,j.na,j.n,j.nb,j.nd,j.ne,j.m⟩;rw[mR];split;exact nofun;exact j.e q s;let⟨s,q,hc,ha⟩:=j.l t r p v;refine⟨s,q,?_,ha⟩;rwa[mR,ak λq=>hb t r p v q.symm]
def cs.nh(j:cs x z w)(q:bj z)(p:b5 z.d y=Z):cs x (bX {z with d:=eu z.d y<|.a cL} 2 0 y) w:=by
 let hc:∀(u:Nat)t,17<=u->z.a[u]?=Q t->t.d≠y:=λr v t u s=>j.e _ (j.l r v t u).2.1<|s▸p;let v:∀{s t},s≠2->(dr (z.c++[⟨2,0,y⟩]) s t↔dr z.c s t):=λr=>Gu λt=>r t.symm;let ha:∀{r u},dr z.c r u->dr (z.c++[⟨2,0,y⟩]) r u:=λr=>qk.2<|.inl r;refine⟨j.nj.a (λ_=>⟨J,λs=>j.e y s p,λt=>aE J t⟩) (λu=>aE u (by show¬(2:Int)=4;decide)) (λs=>aE s (by show¬(2:Int)=5;decide)) (λ_ t u r=>by let s:=adq q u;let r:=r;rw[r,p]at s;cases s),λq hd=>?_,λr t s u=>?_,j.na,λr t s u=>?_,j.nb,λhe q p hb=>j.nd he q p<|(v (by rcases p with rfl|rfl|rfl<;>decide)).1 hb,j.ne,λr s=>?_⟩;show b5 (eu z.d y _) q≠Z;rw[mR];split;exact nofun;next p=>exact j.e q<|(LL p).1 hd
 let⟨q,p,hd,hb⟩:=j.l r t s u;refine⟨q,ha p,?_,hb⟩;show b5 (eu z.d y _) t.d≠_;rwa[mR,ak λp=>hc r t s u p.symm];let⟨q,hb⟩:=j.n r t s u;exact⟨λu hd p hc=>q u hd p<|(v (by rcases p with rfl|rfl|rfl<;>decide)).1 hc,λt=>ha<|hb t⟩;let⟨t,q,hd,p,u,hb,hc⟩:=j.m r s;exact⟨t,q,hd,p,ha u,λr=>hb<|(v A).1 r,λq=>hc<|(v A).1 q⟩
def cs.i(j:cs x z w)(s:bj z)(ha:b5 z.d y=Q (.a cL)){p q}(v:gK x y=.ok p)(r:p.d=y)(t:dr z.c 2 y)(hb:b5 z.d p.b=Q (.b q))(hc:u≠.a cL):cs x {fl z p q with d:=eu z.d y u} w:=by
 let hi:∀(he:Nat)hd,17<=he->z.a[he]?=Q hd->hd.d≠y:=λp hd hg hf he=>(j.l p hd hg hf).2.2.1<|he▸ha;let⟨ha,h5⟩:=s.d _ q hb;let⟨hq,hh⟩:=a1 ha.1;let⟨h7,h2,_⟩:=s.a.c q hq hh;let⟨hk,h3,hs,h4,_⟩:=C9 p.c ⟨p.d,Y z.a::bY z.a q,p,.c,[],c5 z.a q,[],p.a.map λha=>ha.c.map λ_=>Z,[]⟩;let ha:17<=Y z.a:=by let⟨hb,_,ha,_⟩:=s.a.b 16 L;have:=(bc.1 ha).1;omega
 let hj:∀{ha s},z.a[ha]?=Q s->(fl z p q).a[ha]?=Q s:=λ{hb ha}s=>(gh (bc.1 s).1).trans s;let h1:∀s,s=3\/s=4\/s=5->¬dr z.c s y:=λhl hg hb=>by let⟨ha,s,hd,he,hf⟩:=j.nd hl y hg hb;exact hi ha s hd he hf
 refine⟨j.nj,λho ht=>?_,λs hb ha hd=>?_,λs he hb hp ha hr hf h0 hm=>?_,λs hb ha hg=>?_,λs hb ha hd=>?_,λhn ho hl t=>?_,j.ne,λs ha=>?_⟩;rw[mR];split;exact nofun;exact j.e ho ht;rcases ym hd with hf|⟨rfl,rfl⟩;let⟨hv,hw,h8,hu,h6,ht,hx,hy,hz⟩:=j.l s hb ha hf;refine⟨hv,hw,?_,hu,h6,ht,hx,hj hy,hz⟩;rwa[mR,ak λht=>hi s hb ha hf ht.symm];let ht:(ij p (Y z.a) (bY z.a q)<|c5 z.a q).d=y:=hk.trans r;rw[ht];refine⟨v▸b9 _ hs.symm,t,?_,q,h7,hq,?_,hj hh,?_⟩;rw[mR,aC J];exactλhe=>hc<|cx he;apply h3.trans;rw[fv hh,h2];rw[<-Ao hh,h5];exact b9 _ hs.symm;rcases ym hf with hg|⟨rfl,rfl⟩<;>rcases ym h0 with v|⟨rfl,rfl⟩;exact j.na s he hb hp ha hr hg v hm;exact aE (hm.trans<|hk.trans r)<|hi s hb ha hg;exact aE (hm.symm.trans<|hk.trans r)<|hi he hp hr v;rfl;rcases ym hg with hd|⟨rfl,rfl⟩;exact j.n s hb ha hd;rw[show(ij p (Y z.a) (bY z.a q)<|c5 z.a q).d=y from hk.trans r];exact⟨λ_ hn hl p=>h1 hn hl p,λq=>by let r:=h4.symm.trans q;cases r⟩;rcases ym hd with p|⟨rfl,rfl⟩;exact j.nb s hb ha p;omega;let⟨s,p,v,q,r⟩:=j.nd hn ho hl t;exists s,p,v,hj q;let⟨r,q,t,v⟩:=j.m s ha;exists r,q,hj t
def R5{a}(b:ds a≠ds 2):dx.a (ds a)≠.a cL:=λc=>b (by injection c)
def Lm:∀(e)(y)(z),bj z->z.m=x.a->cs x z w->cs x (dN x e y z).2 w|0,_,_,_,_,j=>j|e+1,y,z,r,a,j=>by rw[dN];cases t:b5 z.d y with|some u=>exact j|none=>(have d:∀b,b5 z.d y≠Q (.b b):=λb h=>by rw[t]at h;cases h);let⟨g,m⟩:=Dj r d<|.inl ⟨_,J,fE 2 L⟩;let⟨f,q⟩:=g.b (y:=bX (dG z y<|.a cL) 2 0 y) J J J J J;have q:=j.nh r t;(have o:b5 (bX {z with d:=eu z.d y<|.a cL} 2 0 y).d y=Q (.a cL):=by show b5 (eu z.d y _) y=_;rw[mR,aC J]);have s:dr (bX {z with d:=eu z.d y<|.a cL} 2 0 y).c 2 y:=qk.2<|.inr ⟨J,J⟩;have f:bj (bX {z with d:=eu z.d y<|.a cL} 2 0 y):=f;have n:(bX {z with d:=eu z.d y<|.a cL} 2 0 y).m=x.a:=a;simp only;generalize bX {z with d:=eu z.d y<|.a cL} 2 0 y=g at q o s f n;rcases Al with⟨r,c,t⟩|⟨b,c,p,m,i⟩;rw[c];exact q.f o;rw[c];have i:=so e b.b g f n;have a:=Lm e b.b g f n q;have v:=De (u:=x) e b.b g;simp only;generalize dN x e b.b g=l at i a v;let⟨u,b⟩:=l;have d:=i.f y _ o;(have l:dr b.c 2 y:=by let⟨n,k⟩:=v;let⟨h,f,o⟩:=s;exists h,(show b.c=g.c++n from k)▸bS _ f);have a:=a;have k:=i.a;cases u with|b h=>simp only;have p:=i.d h J;rw[gJ];simp only;split;exact a.i k d c m l p<|R5 A;split;exact a.i k d c m l p<|R5 A;exact a.i k d c m l p nofun|c c e=>exact a.f d|d c e=>exact a.f d|a r=>exact a.f d
end
section
variable{t:a8}{x u s:ag}{w y z:bV}{r:S Nat}{p:Int}{o:Nat}{v:ih}{q:S Nat}
def jF(w:bV)(x:ag):W Nat:=w.b.toList++x.n
def LG:(aV x y).n=jF y x:=by rw[ag.n,aV,jF];rw[kO];cases y.b<;>rfl
def sr(z:eH w=Q (v,y)):y.b=w.b:=by rw[eH]at z;let⟨b,_,a⟩:=b3.1 z;cases a;rfl
def ws{a}(z:hM w=Q (a,y)):y.b=w.b:=by
 rw[hM]at z;split at z;next b=>cases z;exact sr b
 cases z
def yn{a b}(z:gL w=Q (a,b,y)):y.b=w.b:=by
 rw[gL]at z;split at z;next c=>split at z;(next d=>cases z;exact(ws d).trans<|ws c);cases z
 cases z
def Au(z:iN w=Q (q,y)):y.b=w.b:=by
 rw[iN]at z;split at z;next a=>cases z;exact sr a
 next b=>cases z;exact sr b
 cases z
def Gl(z:kT w=Q (q,y)):y.b=w.b:=by
 rw[kT]at z;split at z;next a=>cases z;exact sr a
 next b=>cases z;exact sr b
 cases z
def cs.d(j:cs t x (jF w x))(r:y.b=w.b)(v:u.b=x.b)(s:u.d=x.d)(q:u.c=x.c)(p:u.a.map jE=x.a.map jE):cs t (aV u y) (aV u y).n:=by rw[LG];refine j.b s q p ?_;unfold jF ag.n;rw[r,v];exact jv _
def cs.c(j:cs t x (jF w x))(ha:y.b=w.b)(hc:u.b=x.b)(hb:u.d=x.d)(q:u.c=x.c)(p:u.a=x.a)(z:ep u y v=Q (r,s)):cs t s s.n:=by cases z;exact j.d ha hc hb q<|p▸J
def cs.h(j:cs t x (jF w x))(z:ep u y v=Q (r,s))(ha:y.b=w.b)(hc:u.b=x.b)(hb:u.d=x.d)(q:u.c=x.c)(p:u.a=x.a):cs t s s.n:=j.c ha hc hb q p z
def cs.a{q}(j:cs t x (jF w x))(p:y.b=w.b)(z:fJ x y q=Q (r,s)):cs t s s.n:=by cases z;have:=j.d p J J J J;exact this.b J J J<|jv _
def cs.k{q}(j:cs t x (jF w x))(u:y.b=w.b)(z:uP x y q p=Q (r,s)):cs t s s.n:=by cases z;refine j.d ?_ J J J J;cases q;exact u;exact u
def SO(j:cs t x (jF w x))(z:cf t x w o p=Q (r,u)):cs t u u.n:=by
 unfold cf at z;split at z;cases z;exact j.d J J J J J;exact j.c J J J J J z;let⟨v,_,z⟩:=ay.1 z;exact j.c J J J J J z;let⟨⟨a,y⟩,l,z⟩:=ay.1 z;simp only at z;split at z;cases z;exact j.d (show _=_ from(sr l:y.b=w.b)) J J J J;cases z;let⟨⟨b,y⟩,m,z⟩:=b3.1 z;cases z;exact j.d (sr m) J J J J;let⟨c,_,z⟩:=ay.1 z;exact j.c J J J J J z;let⟨⟨v,h,y⟩,n,z⟩:=ay.1 z;exact j.c (yn n) J J J J z;let⟨⟨n,k,y⟩,v,z⟩:=ay.1 z;exact j.c (yn v) J J J J z;let⟨⟨b,l,y⟩,a,z⟩:=ay.1 z;exact j.c (yn a) J J J J z;let⟨⟨a,m,y⟩,e,z⟩:=ay.1 z;simp only at z;split at z;exact j.a (yn e) z;exact j.c (yn e) J J J J z;exact j.k J z;let⟨⟨c,y⟩,b,z⟩:=ay.1 z;exact j.k (ws b) z;let⟨⟨d,n,y⟩,c,z⟩:=ay.1 z;exact j.k (yn c) z;let⟨⟨e,y⟩,d,z⟩:=ay.1 z;exact j.k (sr d) z;exact j.c J J J J J z;cases z;cases h:w.b with|none=>refine j.b J J J ?_;rw[jF];rw[h];exact jv _|some i=>(let m:cs t x (i::x.n):=by rw[jF]at j;rwa[h]at j);exact m.g<|.inl J
 let⟨⟨d,y⟩,c,z⟩:=ay.1 z;simp only at z;split at z;next k m l=>cases z;refine j.b J J J ?_;rw[LG];unfold jF ag.n;rw[l,kO];cases k.b with|none=>exact J1 _ _|some v=>exact J1 _ _
 cases z;let⟨⟨q,y⟩,f,z⟩:=ay.1 z;simp only at z;split at z;exact j.a (Au f) z;cases z;exact j.d (Au f) J J J J;cases z;exact j.d J J J J J;let⟨⟨f,y⟩,e,z⟩:=ay.1 z;exact j.c (sr e) J J J J z;let⟨⟨e,y⟩,f,z⟩:=ay.1 z;cases z;exact(j.d (ws f) J J J J).ni J J J<|jv _;split at z;exact j.h z J J J J J;exact j.c J J J J J z;let⟨⟨f,y⟩,b,z⟩:=ay.1 z;simp only at z;split at z;exact j.a (ws b) z;split at z;exact j.a (ws b) z;next s a=>rw[lC]at a;split at a;cases a;cases a;exact j.h z (ws b) J J J J
 let⟨⟨h,y⟩,g,z⟩:=ay.1 z;let⟨⟨q,a⟩,i,z⟩:=ay.1 z;let c:=(Gl i).trans<|ws g;simp only at z;split at z;exact j.a c z;let⟨i,d,z⟩:=ay.1 z;split at z;exact j.a c z;let⟨g,_,z⟩:=ay.1 z;exact j.c c J J J J z;let⟨⟨g,i,y⟩,h,z⟩:=ay.1 z;let⟨⟨q,b⟩,k,z⟩:=ay.1 z;let d:=(Gl k).trans<|yn h;simp only at z;split at z;exact j.a d z;next n=>let⟨k,e,z⟩:=ay.1 z;split at z;exact j.a d z;cases z;exact j.d d J J J J
 let⟨⟨q,y⟩,g,z⟩:=ay.1 z;simp only at z;split at z;exact j.a (Gl g) z;let⟨l,f,z⟩:=ay.1 z;exact j.c (Gl g) J J J J z;cases z
def Sy{a b}(c:∀d,jE (b d)=jE d):(x.a.modify a b).map jE=x.a.map jE:=by refine qR λe=>?_;rw[cv,cv,qT];cases x.a[e]? with|none=>rfl|some f=>by_cases z:a=e;simp[z,c];simp[z]
def R2(j:cs t x (jF w x)){a b}(z:lA t x w a b=Q (r,u)):cs t u u.n:=by
 rw[lA]at z;split at z;exact j.a J z;let⟨⟨e,y⟩,c,z⟩:=ay.1 z;let d:y.b=w.b:=by rw[tw]at c;split at c;cases c;rfl;cases c
 cases z;exact(j.d d J J J J).b J J J<|jv _
def Tf(j:cs t x (jF w x)){a}(z:dP t x w o a=Q (r,u)):cs t u u.n:=by
 unfold dP at z;split at z;exact j.a J z;split at z;split at z;exact j.a J z;next s b=>rw[lC]at b;split at b;cases b;cases b;exact j.h z J J J J J
 split at z;split at z;cases z;exact j.d J J J J J;exact j.a J z;cases z;split at z;next b y h=>exact j.c (Au h) J J J J z
 cases z;cases z;split at z;let⟨⟨i,y⟩,c,z⟩:=ay.1 z;cases i with|none=>exact j.a (Au c) z|some d=>let⟨l,_,z⟩:=ay.1 z;let⟨v,_,z⟩:=ay.1 z;exact j.c (Au c) J J J J z
 let⟨⟨v,y⟩,e,z⟩:=ay.1 z;let⟨⟨k,a⟩,g,z⟩:=ay.1 z;let d:=(Au g).trans<|sr e;cases k with|none=>exact j.a d z|some c=>let⟨m,_,z⟩:=ay.1 z;split at z;cases z;exact j.d d J J J J;cases z
 let⟨n,_,z⟩:=ay.1 z;let⟨v,_,z⟩:=ay.1 z;exact j.c J J J J J z;let⟨⟨v,y⟩,f,z⟩:=ay.1 z;let⟨q,_,z⟩:=ay.1 z;split at z;cases z;exact(j.d (sr f) J J J J).b J J (Sy λ_=>rfl)<|jv _;cases z;cases z;split at z;let⟨v,_,z⟩:=ay.1 z;cases v with|a=>exact j.a J z|c e=>simp only at z;split at z;exact R2 j z;cases z|b p=>cases z|d f=>cases z
 exact R2 j z;cases z
end
section
variable{y:a8}{z u:ag}{r:W Nat}{w q:bV}{t:cK}{s:c3}{x:Nat}
def adr(e:el z.a){a}(b:a<17){c}(d:z.a[a]?=Q c):¬uK c.d:=λh=>by let⟨k,l,g,i,j,_⟩:=e.b a b;rw[d]at g;cases g;let f:=Da b;rw[bW]at f;rw[i]at f;exact h a b<|f.symm.trans j.symm
def adU(f:bj z)(j:cs y z z.n){a}(b:17<=x)(c:z.a[x]?=Q a)(d:a.g=.c)(e:dr z.c 3 a.c.b\/¬uK a.c.b):cs y (gb y z x).2 (gb y z x).2.n:=by have g:=j.o b c d e;rw[gb];simp only;have h:bW (bX (dn z x .b) 3 0<|bW z.a x).a x=bW z.a x:=SH;have i:(bX (dn z x .b) 3 0<|bW z.a x).n=z.n:=rfl;generalize bX (dn z x .b) 3 0 (bW z.a x)=k at g h i;rw[<-i]at g;split;have:=g.g<|.inl J;rwa[h]at this;split;exact g.nc.b J J J<|jv _;exact g.b J J J<|jv _
def S5(a:bj z)(b:dF z x)(j:cs y z z.n):cs y (dO y z x).2.2 (dO y z x).2.2.n:=by rw[dO];split;exact j;next c=>let⟨r,h,q⟩:=Lt a.a b.1 c;simp only;generalize eX z.a x=e at r h q;have w:=b.b a.a r;let⟨c,g⟩:=a1 w.1;(have b:eO z.a e=c.g:=by rw[eO];rw[g]);(have n:17<=e:=by rcases dy e 17 with l|l;exact aE (b.trans<|j.nb e c l g) h;exact l);split;exact j.b J J J<|jv _;next t=>split;exact(j.ng n).b J J J<|jv _;next d f=>let⟨ha,o,p,i,m,s⟩:=LF a w f;(have r:c.g=.c:=by rw[b]at h t;cases v:c.g with|c=>rfl|b=>exact aE v h|a=>exact aE v t);(have o:d.d=z.d/\d.c=z.c:=by rw[je]at f;split at f;cases f;split at f;cases f;exists J;cases f);(have k:d.n=z.n:=by unfold ag.n;rw[m]);have v:cs y d d.n:=k▸j.b o.1 o.2 (i▸J) (jv _);have l:d.a[e]?=Q c:=i▸g;obtain⟨-,-,-,i,u,p,f,k,h⟩:=j.l e c n g;(have t:dr d.c 3 c.c.b\/¬uK c.c.b:=by have s:=q i<|fv g▸f▸.head _;(have g:p.g=.b:=by rw[eO]at s;rwa[k]at s);rw[<-h,o.2];rcases dy i 17 with m|m;exact .inr<|adr a.a m k;exact .inl<|(j.n i p m k).2 g);have u:=adU ha v n l r t;generalize gb y d e=a at u;obtain⟨_|d,e⟩:=a<;>exact u
def adO(c:bj z)(d:z.m=y.a)(j:cs y z r){b a}:cs y (gt y z w b a).2 r:=by
 rw[gt];split;exact j;let e:cs y (et y a.b z).2 r:=Lm 42 a.b z c d j;let f:(fk y z b a).2=(et y a.b z).2:=by rw[fk];generalize et y a.b z=g;let⟨v,u⟩:=g;cases v<;>rfl
 rw[<-f]at e;exact e.b J J (Sy λ_=>rfl)<|jv _
def K9(y:a8):eA->Prop|.a=>True|.c u=>cs y u u.n|.b _ u=>cs y u u.n
def Gi{a:tq}(b:∀c u,a=Q (c,u)->cs y u u.n):K9 y (eA.d a):=by rcases a with _|⟨d,u⟩;trivial;exact b d u J
def SI(a:cr z w t s)(c:z.m=y.a){b}(d:eM s.b.toNat=Q b)(j:cs y z (jF w z)):K9 y (mS y z w s b):=by
 have e:=Dh a.a a.c.b a.h a.c.c c d;have g:=adO (w:=w) a.a c j (b:=b) (a:=s.a);unfold mS;simp only;generalize gt y z w b s.a=k at e g;let⟨b,i⟩:=k;have g:=g;have f:jF w z=jF w i:=by unfold jF ag.n;rw[show i.b=z.b from e.c]
 rw[f]at g;split;exact Gi λha u k=>Tf g k;next x f=>(have q:dF i x:=by(have f:jD b=Q x:=by split at f;exact f;cases f);have n:=e.d.1;cases b with|a l=>cases f|b o=>cases f;exact n.1|c o j=>cases f;let⟨h,_,_,l,_,m,_⟩:=n;exact l.b e.a.a m|d o p=>cases f;let⟨h,_,l,_,m,_⟩:=n;exact l.b e.a.a m);let⟨v,a⟩:=e.a.b (y:=aV i w) J J J J J;have p:=ww (w:=y) v<|q.a a.tofj e.a.a;have h:=S5 v (q.a a.tofj e.a.a) (by rw[LG];exact g.b J J J<|jv _);generalize dO y (aV i w) x=c at p h;let⟨r,d,u⟩:=c;have h:=h;cases r with|some r=>exact h|none=>cases d with|false=>exact h|true=>obtain⟨rfl,e⟩:=p;exact Gi λha u k=>Tf g k
def adx(d:bj z)(b:z.m=y.a)(c:eZ z w t)(a:kR z w t w.c)(f:w.d=w.c+1)(e:fh z z.b t.a)(j:cs y z (jF w z)):K9 y (ii y z w):=by rw[ii];cases o:w.e with|some q=>exact j.d J J J J J|none=>(let n:cu z.a w.g w.h=t:=by rw[cu];rw[c.b];rfl);let⟨s,i⟩:=a1 a.1;simp only;rw[n,i];simp only;let g:cr z w t s:=⟨d,c,a,f,e,i,o⟩;cases h:eM s.b.toNat with|none=>exact Gi λr u l=>SO j l|some p=>simp only;split;(cases lU w with|none=>trivial|some k=>cases k with|true=>exact Gi λv u m=>SO j m|false=>exact SI g b h j);exact SI g b h j
def S9{a}:∀{e z},cs y z (e.filterMap (·.b))->cs y (hO z a e) (hO z a e).n|[],z,j=>j.b J J J (List.nil_sublist _)|w::b,z,j=>by rw[hO];split;refine j.b J J J ?_;rw[kO];exact jv _;cases g:w.b with|none=>simp only;apply S9;rwa[kO,g]at j|some x=>simp only;rw[kO,g]at j;have k:cs y {z with b:=b} (x::b.filterMap (·.b)):=j.b J J J<|jv _;have l:=k.nc;(have c:(eN (eW {z with b:=b} x) a).2.d=(eW {z with b:=b} x).d/\(eN (eW {z with b:=b} x) a).2.c=(eW {z with b:=b} x).c/\(eN (eW {z with b:=b} x) a).2.a=(eW {z with b:=b} x).a/\(eN (eW {z with b:=b} x) a).2.b=b:=by rw[eN];split<;>exists J,J,J);let⟨c,h,i,f⟩:=c;have d:=l.b c h (i▸J)<|jv _;generalize eN (eW {z with b:=b} x) a=n at d f;cases b with|nil=>refine d.b J J J ?_;rw[f];exact jv _|cons q m=>refine d.b J J J ?_;rw[kO];exact jv _
def aes{u:ag}{a:Nat}{b:W bV}:(u.b.modify a λc=>{c with d:=c.c}).filterMap (·.b)=u.b.filterMap (·.b):=by generalize u.b=e;induction e generalizing a with|nil=>simp|cons f g d=>cases a with|zero=>simp[P0,kO]|succ a=>simp only[P0,Nat.succ_ne_zero,gV,as1,kO];rw[d]
def aev(b:bj z)(d:z.m=y.a)(c:jb z z.b)(j:cs y z z.n)(a:lW y z=Q u):cs y u u.n:=by rw[lW]at a;cases i:z.b with|nil=>rw[i]at a;cases a|cons w h=>rw[i]at c a;let⟨t,g,l,p,e⟩:=c;simp only at a;let⟨v,k⟩:=b.b (y:={z with b:=h}) J J J J J;have r:=(⟨g.b,g.d,g.g⟩:eZ z {w with c:=w.d,d:=w.d+1} t).a k.tofj b.a;have o:=kR.a k.tofj b.a g.c ⟨l.1,l.2⟩;have q:=fh.a k.tofj b.a p;(have s:cs y {z with b:=h} (jF {w with c:=w.d,d:=w.d+1} {z with b:=h}):=by refine j.b J J J ?_;unfold jF ag.n;rw[i,kO];cases w.b<;>exact jv _);have e:=adx v d r o J q s;generalize ii y {z with b:=h} {w with c:=w.d,d:=w.d+1}=n at e a;cases n with|a=>cases a|c f=>cases a;have e:=e;refine e.b J J J ?_;rw[ag.n];rw[aes (b:=[])];exact jv _|b x f=>have e:=e;have m:cs y {f with e:=f.e+1} (({f with e:=f.e+1}:ag).b.filterMap (·.b)):=e.b J J J<|jv _;cases x with|none=>cases a;exact m|some b=>cases a;exact S9 m
def adT(y):Ac y λz=>cs y z z.n:=⟨λ_ _ e i g j c=>aev e i g j c,λ_ _ f h _ j=>S5 f h j,λz x k l j=>by(have:(ga z x k [] Z).n=z.n:=by unfold ag.n ga;rw[kO]);rw[this];exact j.b J J J<|jv _,λz a b j=>by let d:=so 42 y.e z a b;(have:(et y y.e z).2.n=z.n:=by unfold ag.n;rw[show(et y y.e z).2.b=z.b from d.b.1]);rw[this];exact Lm 42 y.e z a b j⟩
def adS(y):cs y (es y) (es y).n:=by let b:∀{k l},¬dr (es y).c k l:=nofun;let c:∀{x d},(es y).a[x]?=Q d->x<17:=λf=>(bc.1 f).1;refine⟨⟨nofun,λz g=>b g.1,λa h=>(b h).elim⟩,λd i=>(b i).elim,λx m r a=>?_,λx q n p s v a=>?_,λx o t a=>?_,λx e u a=>?_,λw f _ j=>(b j).elim,tc,nofun⟩;have:=c a;omega;have:=c a;omega;have:=c a;omega;obtain⟨_,rfl⟩:=uN<|show e0[x]?=Q e from a;rfl
end
def arv:ownKnob T.godebug=Z:=M
def Z3:laidOutB T=K:=M
def Z4:tj.params=#[52,56]:=M
def arw:tj.resultTypes=#[4]:=M
def rJ(b:Int)(c:ac)(a:dX):aJ:=ao a.a b&&aM a.b c
def dV(b:W dX)(a:Int)(c:ac):Int:=match b.findIdx? (rJ a c)with|Q d=>.ofNat d|Z=>-1
section
variable{z:W dX}{y:Int}{x:ac}{u:Nat}{w:dX}
def apy(a:∀w∈z.take u,rJ y x w=N)(c:z[u]?=Q w)(b:rJ y x w=K):dV z y x=.ofNat u:=by
 rw[dV];have:z.findIdx? (rJ y x)=Q u:=by rw[xG];let⟨d,e⟩:=bc.1 c;refine⟨d,e▸b,λj f=>?_⟩;rw[a _<|List.mem_take_iff_getElem.2 ⟨j,L,J⟩];exact zI
 rw[this]
def apA(a:∀w∈z,rJ y x w=N):dV z y x=-1:=by rw[dV];have:=aay.2 a;rw[this]
end
section
variable{x:U}{t:Nat}{z:ac}{w:X}{u:W dX}{y:Int}
def vD(a:aK x 3 w (u.map e5))(b:Y u<=2000000):bZ x T 41 [w,V y,O z] (λv=>v=V (dV u y z)) H:=by refine bZ.a (λt=>?_) (λ_ m _ _=>by rw[m];rfl);refine ai func41 12 [] λj=>?_;refine gN (g:=Unit) (Y u) (λp e=>∀l∈u.take p,rJ y z l=N) (λq g=>[(0,w),(1,V y),(2,O z),(7,B q)]) (λc h=>[]) () [] (nofun) cU J λr k b o c=>?_;apply bO 5 [];refine ck a (bk ..)<|I 3 []<|aP J (λg=>?_) (λg=>?_);have h:=cM g;let⟨d,e⟩:=a1 h;have k:=λ(_:Unit)=>a.g (m:=T) (show(u.map e5)[r]?=Q (e5 d)by rw[cv,e];rfl);apply aa 8 [];let⟨a,n,q,f,m⟩:=(k ());refine cl (f.a J J J M)<|I 1 []<|fp (v:=V d.a) j J J J f.b (f.c J M) J ?_;apply I 3 [];cases l:(ao d.a y);apply I 16 [];refine cH ?_;apply I 2 [];exact eI () [] h (Jh c e (by rw[rJ];simp only[*,qW,sf,qa])) cU<|J;apply I 2 [];let⟨f,p,r,i,s⟩:=(k ());refine cl (i.a J J J M) ?_;apply I 1 [];refine fp (v:=O d.b) j J J J i.b (s (j:=2) J M) J ?_;apply I 1 [];refine cl (ey J M J J) ?_;apply I 3 [];refine aP J (λd=>?_)<|λi=>?_;apply aa 9 [];apply dI;apply aL .c 2 [];refine af [] J ?_;show V _=V _;rw[apy c e (by rw[rJ];simp only[*,qa])];apply aa 5 [];refine cH ?_;apply I 2 [];exact eI () [] h (Jh c e (by rw[rJ];simp only[*,qW,sf,qa])) cU<|J;have n:=e6 o g;subst n;apply aa 2 [];apply ch;refine aL (.b _) 8 [] ?_;refine af [] J ?_;show V _=V _;rw[td]at c;rw[apA c]
def ah0{a b}(d:a.size<=4000000)(c:gZ (aG a.data) b):D x T 25 [O a] t [] (λo _ g=>∃e f,fm g b e f/\o=.c [.b [O b.d,O b.b,e,f],V 0]) H:=by let m:a=⟨a.data.toList.toArray⟩:=uy▸J;let n:Y a.data.toList<=4000000:=pt▸d;have:=Vh (y:=x) (z:=t) n c;rw[<-m]at this;exact this.a (λ_ _ _⟨h,i,_,k,l⟩=>⟨h,i,k,l⟩) λ_ j=>j
def vj(z:ac)(a:W (ac×ac)):Nat:=(Y<|a.filter λb=>cj<|b.1=z)
def ahJ{a:W (ac×ac)}{c:ac×ac}{b:Nat}(e:a[b]?=Q c)(d:aM c.1 z=K):vj z (a.take<|b+1)=vj z (a.take b)+1:=by unfold vj;rw[FA,e,Fy,bJ];simp[le.1 d]
def ahI{a:W (ac×ac)}{c:ac×ac}{b:Nat}(e:a[b]?=Q c)(d:aM c.1 z=N):vj z (a.take<|b+1)=vj z (a.take b):=by
 unfold vj;have:c.1≠z:=λf=>by rw[le.2 f]at d;cases d
 rw[FA,e,Fy,bJ];simp[this]
def Uk{a:W (ac×ac)}{c:ac×ac}{b:dM}(d:aK x 2 w (a.map eD))(h:∀m∈a,m.2.size<=4000000)(i:Y a<=2000000)(e:(a.filter λn=>cj<|n.1=z)=[c])(g:gZ (aG c.2.data) b)(f:b.d=z):bZ x T 42 [w,O z] (λo=>o=O b.b) H:=by
 have hc:∀j∈a,aM j.1 z=K->j=c:=λn u r=>by have:n∈a.filter λo=>cj<|o.1=z:=pq.2 ⟨u,iy<|le.1 r⟩;rw[e]at this;exact eY.1 this
 have i:∀c,vj z (a.take c)<=Y a:=λk=>df (xJ ..)<|df (List.length_take_le' ..)<|bd _;refine bZ.a (λt=>?_) (λ_ s _ _=>by rw[s];rfl);refine ai func42 22 [] λu=>?_;refine GH (h:=ac×Nat×U) (Y a) (λk⟨p,y,q⟩=>y=vj z (a.take k)/\(0<y->p=b.b)) (λm⟨q,y,r⟩=>[(0,w),(1,O z),(4,O<|(iK #[])),(5,O q),(6,B y),(7,B m)]) (λn⟨c,y,l⟩=>[]++l) (⟨#[]⟩,0,[]) 0 [] (⟨J,λv=>aE v<|as3 _⟩) tf J λk l p hb j=>?_;let⟨r,y,ha⟩:=l;let⟨l,c⟩:=j;have j:=i k;apply bO 5 [];refine ck d (bk ..)<|I 3 []<|aP J (λo=>?_) (λo=>?_);have p:=cM o;let⟨j,m⟩:=a1 p;have i:=bl m;have v:=λ(_:Unit)=>d.g (m:=T) (show(a.map eD)[k]?=Q (eD j)by rw[cv,m];rfl);apply aa 8 [];let⟨d,q,s,n,a⟩:=(v ());refine cl (n.a J J J M) ?_;apply I 1 [];refine fp (v:=O j.1) u J J J n.b (n.c J M) J ?_;apply I 1 [];refine cl (ey J M J J) ?_;apply I 2 [];refine aP J (λk=>?_)<|λk=>?_;have d:=hc j i k;apply aa 3 [];refine cH ?_;apply I 7 [];let⟨s,n,hc,q,a⟩:=(v ());refine cl (q.a J J J M) ?_;apply I 1 [];refine fp (v:=O j.2) u J J J q.b (a (j:=1) J M) J ?_;refine b7 J 0 0 [] (ah0 (a:=j.2) (h j i)<|d▸g) ?_;rintro _ h g⟨u,v,s,rfl⟩;apply I 4 [];refine dk 0 ?_ (hb:=by simp only[co,cA,aK.a s.b,c7.a s.c];rfl);apply I 11 [0];refine cl (v:=R K) (f▸akH J M J J) ?_;apply I 13 [0];refine cH ?_;apply I 2 [];exact rm (b.b,y+1,_) 1 [] p (⟨ahJ m k▸l▸J,λ_=>rfl⟩) tf<|J;apply aa 5 [];refine cH ?_;apply I 2 [];exact rm (r,y,ha) 0 [] p (⟨ahI m k▸l▸J,c⟩) tf<|J;have a:=e6 hb o;subst a;rw[td]at l;have b:y=1:=by rw[l];rw[vj];rw[e];rfl
 apply aa 2 [];apply ch;refine aL (.b _) 6 [] ?_;refine cl (v:=R N) (zc J J J (by rw[b];rfl)) ?_;apply I 12 [];refine da 0 [] J ?_;show O r=_;rw[c L]
end
section
variable{z:W dX}{w:Int}{x:ac}{t:Nat}{y:dX}{u:a8}
def Ii:rJ w x y=K↔y.a=w/\y.b=x:=by rw[rJ];rw[cQ,dc,le]
def Ph(z)(w)(x):(dV z w x=-1/\¬dr z w x)\/∃(j:Nat)(y:dX),dV z w x=.ofNat j/\z[j]?=Q y/\y.a=w/\y.b=x/\∀e b,z[e]?=Q b->b.a=w->b.b=x->j<=e:=by cases a:z.findIdx? (rJ w x)with|none=>refine .inl ⟨by rw[dV];rw[a],λ⟨y,o,h,k⟩=>?_⟩;have:=aay.1 a y o;rw[Ii.2 ⟨h,k⟩]at this;cases this|some j=>let⟨i,d,l⟩:=xG.1 a;refine .inr ⟨j,z[j],by rw[dV];rw[a],e7 i,(Ii.1 d).1,(Ii.1 d).2,λf q p m n=>?_⟩;rcases dy f j with c|c;let⟨r,g⟩:=bc.1 p;have:=l f c;rw[g]at this;exact aE (Ii.2 ⟨m,n⟩) this;exact c
def Pk(a:sn z t w x):aF (dV z w x) 0=N/\aF (.ofNat t) (dV z w x)=N:=by let⟨j,y,k,b,c,d⟩:=a;rcases Ph z w x with⟨_,h⟩|⟨e,i,f,_,_,_,g⟩;exact aE ⟨y,bl b,c,d⟩ h;have:=g j y b c d;rw[f];constructor;rw[<-mf,dK];exact vI.2<|Fv e;rw[<-mf,dK];show¬((t)<(e:Int));omega
def Pj(a:aF (dV z w x) 0=N):dr z w x:=by rcases Ph z w x with⟨b,_⟩|⟨j,y,_,c,d,e,_⟩;rw[b]at a;cases a;exists y,bl c,d
def apz(b:RH u z t y)(a:z[t]?=Q y):dV z y.a y.b=.ofNat t:=by rcases Ph z y.a y.b with⟨_,c⟩|⟨j,d,e,c,f,g,h⟩;exact aE ⟨y,bl a,J,J⟩ c;let i:=h t y a J J;let k:=b.b j d c f g;rw[e,show j=t by omega]
def aiM{b}(a:gK u x=.ok b):∃e,(u.a.filter λy=>cj<|y.1=x)=[e]/\gZ (aG e.2.data) b/\b.d=x/\aM b.b ⟨#[]⟩=N:=by
 let k:gv b:=by rcases Al with⟨p,c,_⟩|⟨n,c,h,_⟩;rw[a]at c;cases c;rw[a]at c;cases c;exact h
 rw[gK]at a;split at a;next y i=>split at a;(next o d=>split at a;(next j=>cases a;refine⟨y,i,?_,j,?_⟩;rw[yj]at d;split at d;(next m=>cases d;exact CH m);cases d;let f:=k.2.1;cases l:aM b.b ⟨#[]⟩with|false=>rfl|true=>let g:=le.1 l;rw[g]at f;exact aE f.1.1 A);cases a);cases a
 cases a
def vm{c a x}(b:Ua u c x a z):wk u z/\0<=a/\a<=(u.d)/\Y z<=400000:=by let⟨m,d,e,f,g,h,k⟩:=b.a;obtain⟨n,i,-,j⟩:=R8 u (adT u) (adS u)<|FD _;have:=SY e i;subst this;let l:d.e<=u.d:=f.a;subst g h;exists j.nj,Fv _,by show(d.e:Int)<=_;omega
def IH{a}(d:wk u z)(e:y.a=3->sn z t 3 a\/¬uK a)(c:ao y.a 3=K)(b:(!(aF (dV z 2 a) 0))=K):aF (dV z 3 a) 0=N/\aF (.ofNat t) (dV z 3 a)=N:=by rcases e (dc.1 c)with f|f;exact Pk f;exact aE (d.d a<|Pj (by simpa using b)) f
def aln(c:wk u z)(a:(!(aF (dV z 4 x) 0))=K)(b:(!(aF (dV z 5 x) 0))=K):False:=c.c x ⟨Pj (by simpa using a),Pj (by simpa using b)⟩
end
section
variable{z:U}{y:Nat}
def alm{h g c:X}{k:W dM}{i:W (ac×ac)}{d:ac}{f:W Int}{b a e:Int}(l:c7 z 4 (AA z) h k)(m:aK z 2 g (i.map eD))(j:iQ z c f)(r:∀s∈i,s.2.size<=4000000)(o:Y k<=2000000)(p:Y i<=2000000)(n:Y f<=2000000)(q:d.size<=4000000):bZ z T 11 [h,.b [g,O d,c,V b,V a,V e]] (λu=>u=R K) H:=by
 refine bZ.a (λy=>?_) (λ_ u _ _=>by rw[u];rfl);refine qA QK J ntmps11 λ_ _ _ _ hb=>?_;refine cD<|e2 2 [] [(3,X.a y 0),(4,R N)] [] (y+1) [(y,P.a [g,O d,c,V b,V a,V e])] []<|fx<|a2 J (Mx) ?_;rintro _ rfl;refine aq 1 [] [(5,R K)] []<|kZ<|cD<|aq 2 [] [(19,R N)] []<|cb<|l0 J<|eB<|l2<|aq 2 [0] [(20,h),(21,X.b [g,O d,c,V b,V a,V e])] []<|AL 1 0 [] [] hb aI J J J J (OM l m j.a r o p) (λv a=>.inl a) (λ_ _ t=>ar t.elim) ?_;rintro _ h _⟨ha,hd,r,k,rfl,hg,hh,rfl⟩;exists _,J;refine dk 0 ?_ (hb:=by simp only[co,cA,hg.a,j.a];rfl);apply fx;have hi:=(hg.b (iX hd) λv a=>bo z a).a;have w:iQ (z++r) c f:=j.b λv a=>bS _ a;refine aq 1 [0] [(24,X.b [ha,O d,c,V b,V a,V e])] []<|AL 1 0 [] [] hb aI J J J J (DZ hi w hh n q) (λv a=>(dl.1 a).imp id λu=>bo _<|show v∈(r++k)++[]from bS _<|bS _ u) (λ_ _ t=>ar t.elim) ?_;rintro _ q _⟨he,hf,h,j,x,t,hc,m,rfl,hj,l,rfl⟩;exists _,J;refine e2 4 [] [(26,X.b [V he,O hf,h,V j]),(27,V x),(6,X.a q 0)] [] (q+1) [(q,P.a [V 0,O ⟨#[]⟩,ab,V 0])] []<|g3 (m:=0) (i:=4) (a:=[V he,O hf,h,V j]) ([(q,P.a [V he,O hf,h,V j]),(y,P.a [ha,O d,c,V b,V a,V e])]++((hc++m)++((r++k)++[]))) J J J J J J M J J (by simp only[co,cA,hj.a];rfl) (ez J) J<|aq 1 [] [(7,V x)] []<|kZ<|cD<|aq 2 [] [(29,R<|!(ao x 0))] []<|cb<|aP J (λg=>?_) (λg=>?_);have i:=l.elim (·.2) λu=>by rw[u.2.1]at g;exact aE g A
 refine cD<|aq 3 [] [(4,R<|ao x 3)] []<|cb<|ev<|dI<|cg<|AM 2 [] (.inr J) aI J ?_;show R (ao x 3)=_;rw[i];rfl;have i:x=0:=by rw[<-mf,zJ,Qf]at g;exact dc.1 g
 have m:=i▸l;refine eB<|eC<|Dz (f:=(r++hc)++z) [1,0] [1,0] hb (λv a=>by simp only[dl]at a;rcases a with(u|u)|u<;>first|exact .inl u|exact .inr (by simp[cS,u])) λ_ _ hb=>?_;refine g2<|cD ?_;obtain⟨g,-,x⟩:=m.resolve_left λu=>aE u.2 A;let⟨i,n,k,o⟩:=vm x;obtain⟨p,l,-⟩:=kI g;have k:j<=b:=by have u:((rV hd d f b a e).d:Int)=b:=sc l;omega
 have hk:aK ((r++hc)++z) 2 ha (hd.map eD):=(hg.b (iX hd) λv a=>bS z<|bS _ a).a;have f:aK ((r++hc)++z) 3 h (t.map e5):=(hj.b (Ed _) λv a=>bS z<|bo _ a).a;refine aq 1 [] [(8,V 0)] []<|cb<|g1<|gN (g:=Unit) (Y t) (λv hc=>True) (λv hc=>[(3,X.a y 0),(6,X.a q 0),(8,B v)]) (λv hc=>[(y,P.a [ha,O d,c,V b,V a,V e]),(q,P.a [V he,O hf,h,V j])]) () [0,1] (C) ⟨J,J,J,C⟩ J λv hc r hi hd=>?_;refine g2<|cD<|aq 3 [1] [(32,B v),(34,h)] []<|ck f (bk ..)<|aq 1 [] [(36,R<|aF (.ofNat v)<|.ofNat<|Y t)] []<|cb<|aP J (λe=>?_) (λe=>?_);have a:=cM e;let⟨s,hc⟩:=a1 a;have q:=f.d (o:=T) (show(t.map e5)[v]?=Q (e5 s)by rw[cv,hc];rfl);refine eB<|eC<|g2<|g1<|cD<|aq 3 [1] [(40,h),(41,B v)] [] ?_;let⟨c,hd,he,d⟩:=q;refine cl (v:=.a c hd) (d.a J J J M)<|fp (v:=.b [V s.a,V s.c,O s.b]) hb J J J d.b (d.d M M) J<|e2 2 [0] [(9,X.a r 0)] [] (r+1) [(r,P.a [V s.a,V s.c,O s.b])] []<|kZ<|cD<|aq 3 [0] [(46,R<|ao s.a 1)] []<|cb<|aP J (λc=>?_) (λc=>?_);refine uX<|ch<|uZ<|eC<|cC<|aq 1 [] [(37,B v)] []<|cH ?_;obtain⟨g,-,x⟩:=m.resolve_left λu=>aE u.2 A;let⟨i,n,k,o⟩:=vm x;obtain⟨p,l,-⟩:=kI g;have k:j<=b:=by have u:=sc l;omega
 refine aq 1 [] [(8,B<|v+1)] []<|cG<|eI () [1,2] a (C) ⟨J,J,J,C⟩ (J);have q:=i.b v s hc λu=>by rw[u]at c;exact aE c A
 have c:=apz q hc;refine eB<|l2<|aq 6 [2,0,0] [(48,h),(50,V s.a),(52,O s.b)] []<|a2 J (vD f L) ?_;rintro _ rfl;refine aq 1 [] [(10,V<|dV t s.a s.b)] []<|kZ<|cD<|aq 2 [] [(54,V<|dV t s.a s.b),(55,B v)] []<|cl (v:=R N) (zc J J J c)<|aq 3 [0] [(57,R N),(59,V s.c)] []<|cl (v:=R N) (zc J J J q.c)<|aq 1 [] [(61,R N)] []<|cb<|l0 J<|eB<|eC<|g2<|cD<|aq 3 [0] [(64,R<|ao s.a 2)] []<|cb<|aP J (λd=>?_) (λd=>?_);refine uX<|ch<|uZ<|eC<|cC<|aq 1 [] [(37,B v)] []<|cH ?_;obtain⟨g,-,x⟩:=m.resolve_left λu=>aE u.2 A;let⟨i,n,k,o⟩:=vm x;obtain⟨p,l,-⟩:=kI g;refine aq 1 [] [(8,B<|v+1)] []<|cG<|eI () [1,2] a (C) ⟨J,J,J,C⟩ (J);let⟨he,hf,w,hc,c⟩:=q.a λu=>by rw[u]at d;exact aE d A
 let⟨hd,r,q,d,hb⟩:=aiM hc;let⟨hc,hd⟩:=Pk he;let⟨he,hg⟩:=Pk hf;refine eB<|l2<|aq 4 [2,0] [(66,h),(68,O s.b)] []<|a2 J (vD f L) ?_;rintro _ rfl;refine aq 1 [] [(11,V<|dV t 2 s.b)] []<|fx<|aq 4 [2,0] [(71,h),(73,O s.b)] []<|a2 J (vD f L) ?_;rintro _ rfl;refine aq 1 [] [(12,V<|dV t 3 s.b)] []<|kZ<|cD<|aq 1 [] [(75,V<|dV t 2 s.b)] []<|cl (v:=R N) (ID J J J hc)<|aq 3 [] [(77,R N),(78,V<|dV t 2 s.b),(79,B v)] []<|cl (v:=R N) (IC J J J hd)<|aq 3 [] [(82,R N),(83,V<|dV t 3 s.b)] []<|cl (v:=R N) (ID J J J he)<|aq 4 [] [(86,R N),(87,V<|dV t 3 s.b),(88,B v)] []<|cl (v:=R N) (IC J J J hg)<|aq 1 [] [(90,R N)] []<|cb<|l0 J<|eB<|l2<|aq 4 [2,0] [(92,h),(94,O s.b)] []<|a2 J (vD f L) ?_;rintro _ rfl;refine aq 1 [] [(13,V<|dV t 4 s.b)] []<|fx<|aq 4 [2,0] [(97,h),(99,O s.b)] []<|a2 J (vD f L) ?_;rintro _ rfl;refine aq 1 [] [(14,V<|dV t 5 s.b)] []<|kZ<|cD<|aq 3 [] [(103,R<|!(aF (dV t 4 s.b) 0))] [] ?_;cases hc:(!(aF (dV t 4 s.b) 0));refine aq 3 [] [(106,R N)] []<|cb<|l0 J<|eB<|l2<|aq 4 [1,0] [(108,ha),(110,O s.b)] []<|a2 J (Uk hk hh L r q d) ?_;rintro _ rfl;refine aq 1 [] [(15,O w.b)] []<|kZ<|cD<|aq 1 [] [(112,O w.b)] []<|cl (v:=R N) (hb▸ey J M J J)<|cb<|l0 J<|eB<|l2<|aq 3 [2] [(115,h),(116,O w.b)] []<|a2 J (vD f L) ?_;rintro _ rfl;refine aq 1 [] [(10,V<|dV t 2 w.b)] []<|fx<|aq 3 [2] [(119,h),(120,O w.b)] []<|a2 J (vD f L) ?_;rintro _ rfl;refine aq 1 [] [(16,V<|dV t 3 w.b)] []<|fx<|aq 4 [0] [(125,R<|ao s.a 3)] [] ?_;cases hc:(ao s.a 3);refine aq 12 [] [(137,R N)] []<|cb<|l0 J<|eB<|ef<|eC<|cC<|aq 1 [] [(37,B v)] []<|cH ?_;obtain⟨g,-,x⟩:=m.resolve_left λu=>aE u.2 A;let⟨i,n,k,o⟩:=vm x;obtain⟨p,l,-⟩:=kI g;refine aq 1 [] [(8,B<|v+1)] []<|cG<|eI () [1,2] a (C) ⟨J,J,J,C⟩ (J);apply aq 4 [] [(129,R<|!(aF (dV t 2 w.b) 0))] [];cases hc:(!(aF (dV t 2 w.b) 0));refine aq 8 [] [(137,R N)] []<|cb<|l0 J<|eB<|ef<|eC<|cC<|aq 1 [] [(37,B v)] []<|cH ?_;obtain⟨g,-,x⟩:=m.resolve_left λu=>aE u.2 A;let⟨i,n,k,o⟩:=vm x;obtain⟨p,l,-⟩:=kI g;refine aq 1 [] [(8,B<|v+1)] []<|cG<|eI () [1,2] a (C) ⟨J,J,J,C⟩ (J);apply aq 3 [] [(132,R<|aF (dV t 3 w.b) 0)] [];cases hc:(aF (dV t 3 w.b) 0);refine aq 5 [] [(137,R<|aF (.ofNat v)<|dV t 3 w.b)] []<|cb<|aP J (λhc=>?_) (λhc=>?_);refine cD<|aq 1 [] [(4,R N)] []<|cb<|ev<|hQ<|dI<|dI<|hQ<|dI<|cg<|eg [] (.inr J) aI J A ?_;exact aE ((IH i c mO mO).2.symm.trans (mO:aF (.ofNat v) (dV t 3 w.b)=true)) A;refine eB<|ef<|eC<|cC<|aq 1 [] [(37,B v)] []<|cH ?_;obtain⟨g,-,x⟩:=m.resolve_left λu=>aE u.2 A;let⟨i,n,k,o⟩:=vm x;obtain⟨p,l,-⟩:=kI g;refine aq 1 [] [(8,B<|v+1)] []<|cG<|eI () [1,2] a (C) ⟨J,J,J,C⟩ (J);refine aq 5 [] [(137,R K)] []<|cb<|wF J<|cD<|aq 1 [] [(4,R N)] []<|cb<|ev<|hQ<|dI<|dI<|hQ<|dI<|cg<|eg [] (.inr J) aI J A ?_;exact aE ((IH i c mO mO).1.symm.trans (mO:aF (dV t 3 w.b) 0=true)) A;refine aq 3 [] [(106,R<|!(aF (dV t 5 s.b) 0))] []<|cb<|aP J (λhc=>?_) (λhc=>?_);refine cD<|aq 1 [] [(4,R N)] []<|cb<|ev<|dI<|hQ<|dI<|dI<|hQ<|dI<|cg<|eg [] (.inr J) aI J A ?_;exact(aln i (x:=s.b) mO mO).elim;refine eB<|l2<|aq 4 [1,0] [(108,ha),(110,O s.b)] []<|a2 J (Uk hk hh L r q d) ?_;rintro _ rfl;refine aq 1 [] [(15,O w.b)] []<|kZ<|cD<|aq 1 [] [(112,O w.b)] []<|cl (v:=R N) (hb▸ey J M J J)<|cb<|l0 J<|eB<|l2<|aq 3 [2] [(115,h),(116,O w.b)] []<|a2 J (vD f L) ?_;rintro _ rfl;refine aq 1 [] [(10,V<|dV t 2 w.b)] []<|fx<|aq 3 [2] [(119,h),(120,O w.b)] []<|a2 J (vD f L) ?_;rintro _ rfl;refine aq 1 [] [(16,V<|dV t 3 w.b)] []<|fx<|aq 4 [0] [(125,R<|ao s.a 3)] [] ?_;cases f:(ao s.a 3);refine aq 12 [] [(137,R N)] []<|cb<|l0 J<|eB<|ef<|eC<|cC<|aq 1 [] [(37,B v)] []<|cH ?_;obtain⟨g,-,x⟩:=m.resolve_left λu=>aE u.2 A;let⟨i,n,k,o⟩:=vm x;obtain⟨p,l,-⟩:=kI g;refine aq 1 [] [(8,B<|v+1)] []<|cG<|eI () [1,2] a (C) ⟨J,J,J,C⟩ (J);apply aq 4 [] [(129,R<|!(aF (dV t 2 w.b) 0))] [];cases s:(!(aF (dV t 2 w.b) 0));refine aq 8 [] [(137,R N)] []<|cb<|l0 J<|eB<|ef<|eC<|cC<|aq 1 [] [(37,B v)] []<|cH ?_;obtain⟨g,-,x⟩:=m.resolve_left λu=>aE u.2 A;let⟨i,n,k,o⟩:=vm x;obtain⟨p,l,-⟩:=kI g;refine aq 1 [] [(8,B<|v+1)] []<|cG<|eI () [1,2] a (C) ⟨J,J,J,C⟩ (J);apply aq 3 [] [(132,R<|aF (dV t 3 w.b) 0)] [];cases h:(aF (dV t 3 w.b) 0);refine aq 5 [] [(137,R<|aF (.ofNat v)<|dV t 3 w.b)] []<|cb<|aP J (λf=>?_) (λf=>?_);refine cD<|aq 1 [] [(4,R N)] []<|cb<|ev<|hQ<|dI<|dI<|hQ<|dI<|cg<|eg [] (.inr J) aI J A ?_;exact aE ((IH i c mO mO).2.symm.trans (mO:aF (.ofNat v) (dV t 3 w.b)=true)) A;refine eB<|ef<|eC<|cC<|aq 1 [] [(37,B v)] []<|cH ?_;obtain⟨g,-,x⟩:=m.resolve_left λu=>aE u.2 A;let⟨i,n,k,o⟩:=vm x;obtain⟨p,l,-⟩:=kI g;refine aq 1 [] [(8,B<|v+1)] []<|cG<|eI () [1,2] a (C) ⟨J,J,J,C⟩ (J);refine aq 5 [] [(137,R K)] []<|cb<|wF J<|cD<|aq 1 [] [(4,R N)] []<|cb<|ev<|hQ<|dI<|dI<|hQ<|dI<|cg<|eg [] (.inr J) aI J A ?_;exact aE ((IH i c mO mO).1.symm.trans (mO:aF (dV t 3 w.b) 0=true)) A;have a:=e6 hi e;refine uX<|ch<|ch<|uZ<|l2<|aq 4 [1] [(141,R<|!(aF j 0))] [] ?_;cases s:(!(aF j 0));refine aq 7 [] [(4,R N)] []<|cb<|ev<|cg<|eg [] (.inr J) aI J A ?_;exfalso;rw[show aF j 0=N from by rw[<-mf,dK];exact vI.2 n]at s;cases s;refine aq 7 [1,0] [(4,R<|!(aF b j))] []<|cb<|ev<|cg<|eg [] (.inr J) aI J A ?_;show R (!(aF b j))=_;rw[show aF b j=N from by rw[<-mf,dK];exact vI.2 k];rfl
end
def arx{b c d}(a:lO b c=Q d):∃e,b.underlying c=Q (.struct e):=by rw[lO]at a;split at a;rename_i f g;exists f;cases a
def arr(c:Type)(g:TypeId×Value->c)(a:World)(e:Nat)(b:bv Value)(f h:W (DataW c))(k:W MemPlace)(d:∀(j:Nat)ho v,tj.params[j]?=Q ho->b[j]?=Q v->xB T a .any e ho v)(i:DataW.Whole g T (aG Tryz.f11.params) Rows.onceSpec.vars N a (aG b) f h k)(l:Rows.uptoSmall c (f++h)=K):Calls T 11 b a λhg hd=>∃v,hg=.returned v/\Rows.onceSpec.post g T tj N K N N a b v hd:=by
 have hl:=i;obtain⟨kr,ks,hs,ht,rfl,kk,km⟩:=i;have hn:=hs;rw[Z4]at hn d;obtain⟨hp,kv,he,kd,hb,kt,kh,rfl,rfl,hj,kb⟩:=uD hn;obtain⟨hc,kw,hf,ke,r,ku,hu,rfl,rfl,hk,kc⟩:=uD kb;obtain⟨rfl,rfl,rfl⟩:=trodAll_nil kc;subst hu;obtain rfl:b=#[hp,hc]:=by cases b;simp_all
 obtain⟨rfl,rfl⟩:=trodVars_none ht;have hv:=ej l;simp only[eF,Rows.uptoBulkAll]at hv;have h7:=hj;have h8:=hk;have hm:=hl.lt;let⟨ko,hh⟩:=hj;let⟨kp,hi⟩:=hk;have h4:=d 0 52 hp J J;obtain⟨n,q,o,rfl⟩:=okWide_slice JD h4;have hq:aG (Value.slice n q o).cells=[.slice n q o]:=rfl;rw[hq]at hh;let⟨kx,ky,h6,h0,kn,kl⟩:=PD hh (show Rows.uptoBulk he<=1048576 by omega);cases h6;have h5:xB T a .any e 56 hc:=d 1 56 hc J J;let⟨kg,hz⟩:=arx Jy;obtain⟨p,rfl,-⟩:=okWide_struct hz h5;have hr:aG (Value.agg p).cells=aG p:=rfl;rw[hr]at hi;obtain⟨t,ha,kf,z,kq,u,x,s,ki,hx,h3,hy,hw,h2,h1,kj,-⟩:=PE hi (show Rows.uptoBulk hf<=1048576 by omega);obtain rfl:p=#[t,.string z,ha,.int .i64 u,.int .i64 x,.int .i64 s]:=by cases p;simp_all
 refine Calls.mono (MA (z:=a) (b:=[ed a<|.slice n q o,.b [ed a t,O z,ed a ha,V u,V x,V s]]) (a:=[.slice n q o,.agg #[t,.string z,ha,.int .i64 u,.int .i64 x,.int .i64 s]]) (by simp only[bm,aT,Hz,dD])<|alm h0 hx h3 hy L hw h2 h1) ?_;rintro hg hd⟨rfl,w⟩;have h9:∀m∈hb,m.block<a.heap.size:=λm y=>hm m (by simp[y]);have ka:∀m∈r,m.block<a.heap.size:=λm y=>hm m (by simp[y]);refine⟨_,J,[he,hf],[],_,[],hb++(r++[]),[],hl,?_,?_,J,w.frame _,nofun⟩;rw[arw];exact trodAll_cons_mk (shut_bool Fj K) trodAll_mk0;rw[Z4];exists hb,r++[],vG Z3 M (ej M) h7 w h9,⟨r,[],vG Z3 M (ej M) h8 w ka,J,J⟩
def arp{a b:aJ}(c:a=K)(d:b=K):(a&&b)=K:=by rw[c,d];rfl
def arq:Fs T 11 tj (Rows.OpenSpec.upto Rows.onceSpec).bare Rows.onceUptoRow=K:=by
 unfold Fs;repeat refine arp ?_ ?_
 all_goals as_aux_lemma=>kernel_rfl
def aru:T.funcNamed Rows.onceUptoRow.func=Q 11:=M
def ars:tj.isInstance T Rows.onceUptoRow.origin Rows.onceUptoRow.targs:=ej M
def ary:tj.isWrapper T Rows.onceUptoRow.wrapper Rows.onceUptoRow.mainSum:=by unfold Func.isWrapper;first|(rw[aC (by decide+kernel)];kernel_rfl)|(rw[ak (by decide+kernel)];exact av)
def art(c:Os)(e:c.Started)(b:Type)(a:TypeId×Value->b)(d:Stop.Interp):ReturnsInHanded {} checked c 11 .any ((Rows.OpenSpec.upto Rows.onceSpec).pre6 a T tj Rows.onceUptoRow.domain N) (((Rows.OpenSpec.upto Rows.onceSpec).at d).post a T tj N K N N):=by refine returnsInHanded_of_cond J arv e M QK (QG J N ⟨#[],#[.slice Z 0 0,.agg #[.slice Z 0 0,.string .empty,.slice Z 0 0,.int .i64 0,.int .i64 0,.int .i64 0]],[]⟩ 8 M M M (x:=([.nil,.agg [.nil,.lit<|.string [],.nil,.lit<|.int .i64 0,.lit<|.int .i64 0,.lit<|.int .i64 0]],[],[])) M J M) ?_;intro f h g j k i n l _ m _;exact arr b a f h g j k i n l m
theorem onceUpto_holds:Rows.OnceUptoSaid:=QF 11 tj J J J J J J J Kb J J J J J aru QK arq ars ary<|λd e b c _ a=>art d e b c a
