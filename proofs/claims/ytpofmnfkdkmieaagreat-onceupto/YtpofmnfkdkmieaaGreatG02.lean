/- What is proved here: part 02. -/
import Derived.Test.YtpofmnfkdkmieaaGreatG01
import Derived.Conc.LoneCalls
import Derived.Tactics2
set_option linter.all false
open And renaming intro->Ke
open Array renaming replicate->vR,size->aj,toList->aG
open Bool renaming false->N,true->K
open Classical renaming choose->aa4,choose_spec->CH
open Go renaming Act->aX,CallsDIn->vV,Code->ek,Exit->bR,FuncId->cV,LeavesInM->kP,Oper->ah,Operand->dW,Program->aD,Value->bh,World->ap,binOp->eT,bodyPostM->gE,bodyPostS->zt,callsIn_of_wp_marks->Fq,comesIn_wide->PL,eqGuard->um,execOp->aY,goInt->ju,mem_ready->qP,recoverD->Cw,results->uo,run_underlying->cE,stepG->Fu,stepGR_op->JO,undef->ee,wpIn_mono->ia,wpIn_seq->xE,wpListIn->fA,wpOpsS->Cx,wpS_region->Cy,yielded->tb
open Go.BinOp renaming eql->Qh,neq->Qi,quo->Qj
open Go.Builtin renaming append_->tg,firstCells->uz,lenOf->uA
open Go.CallsDIn renaming mono->Qm
open Go.CallsIn renaming mono->uC
open Go.Code renaming region->Kn,seq->Qs,wpIn->zK
open Go.Conc renaming G->vW,rcase->CJ,scase->Qv
open Go.Deferred renaming ofValue->vX
open Go.Exit renaming inBlock->pu
open Go.Frame renaming enter->Kp,finish_atR->FN
open Go.IntKind renaming i64->gF
open Go.Machine renaming fenced->ya
open Go.Next renaming value->Ku
open Go.Op renaming stringOp->zP
open Go.Oper renaming semAt_eq->fC,semAt_none->zQ
open Go.Proofs.Tryz renaming func102->Kx,func110->Ky,func119->Kz,func126->abq,func236->abI,func239->FT,func352->KE,ntmps102->acf,ntmps239->Q6,prog->T,results102->acp
open Go.Region renaming binds->hY,ready->zr,wanted->ls
open Go.Result renaming andThen_ok->hF
open Go.Sem renaming runT_eq->aac,run_bind->fN,run_pure->jt
open Go.StepsIn renaming trans->ta
open Go.Value renaming int->kN,pointer->asn,string->qO
open Go.World renaming cell?->rZ,frozen?->JG,putObj_heap_other->JH,putObj_size->PK,setRow->Cs
open Go.stepG renaming apply->JN
open Iff renaming rfl->up
open Int renaming ofNat->fW
open List renaming getElem?_inj->PX,idxOf->vK,length->Y,pairwise_cons->P2,range->fX,range'->qU,set_eq_take_append_cons_drop->asX,toArray->E
open List.Perm renaming refl->go,swap->JR
open List.cons renaming inj->Fx,injEq->zz
open Nat renaming add->zD,beq->aw,ble->cY,blt->cc,strongRecOn->vO,testBit->ic
open Option renaming none->Z,some->Q
open Option.some renaming inj->cx,injEq->hJ
open Prod.mk renaming injEq->xQ
set_option maxRecDepth 100000
set_option maxHeartbeats 4000000
noncomputable section
namespace Go.Proofs.YtpofmnfkdkmieaaGreat
open Tryz Go Go.RowKit
section
variable{y:aD}{z:Nat}{x:fG}{w:bv ah}{u:W Nat}{t:aA}{s:Nat}
def amD(c)(a)(b):BM y x z w u t s [] c a b=Q (b,a):=rfl
def amC(e)(d)(c)(a)(b):BM y x z w u t s (e::d) c a b=N4 y x z w u t s e (BM y x z w u t s d) c a b:=rfl
def XZ:∀(f)(l)(p)(h){c q},BM y x z w u t s f l p h=Q (c,q)->∃(g:W ik)(b:Nat->au),c=h++g/\Y g=Y f/\b 0=p/\b (Y f)=q/\∀j m,f[j]?=Q m->∃o,g[j]?=Q o/\rS y x w u t (s+(l+j)) (l+j) m (b j) (h++g.take j)=Q o/\bP z (b j) m.dst o.d=Q (b<|j+1)|[],e,d,c,i,v,a=>by cases a;exact⟨[],λ_=>d,az,J,J,J,λj f k=>by simp at k⟩|n::g,c,e,r,k,d,a=>by rw[amC,N4]at a;cases k:rS y x w u t (s+c) c n e r with|none=>cases k▸a|some d=>rw[k]at a;simp at a;cases b:bP z e n.dst d.d with|none=>cases b▸a|some f=>rw[b]at a;simp at a;let⟨h,v,l,m,o,p,q⟩:=XZ g (c+1) f (r++[d]) a;refine⟨d::h,λr=>match r with|0=>e|a+1=>v a,by rw[l];simp,by simp[m],J,p,λj b i=>?_⟩;cases j with|zero=>simp at i;subst i;exact⟨d,J,by simpa using k,by show bP z e n.dst d.d=Q (v 0);rwa[o]⟩|succ j=>let⟨n,e,g,h⟩:=q j b (by simpa using i);refine⟨n,by simpa using e,?_,h⟩;let i:c+(j+1)=c+1+j:=L;rw[i];simpa using g
end
def Y2{b c v}(a:aO b c=Q v):(c,v)∈b:=by induction b with|nil=>cases a|cons f g e=>let⟨j,h⟩:=f;rw[cT]at a;cases d:aw c j with|true=>cases d▸a;rw[b8 d];exact hI|false=>rw[d]at a;exact i3 _<|e a
def I2{a b v}:∀{h},aO (BZ a h) b=Q v->aO a b=Q v|[],g=>by simp[BZ,OX]at g|f::i,c=>by rw[BZ,kO]at c;cases e:aO a f with|none=>exact I2 (e▸c)|some j=>rw[e]at c;simp[dD]at c;rw[cT]at c;cases d:aw b f with|true=>cases d▸c;rwa[b8 d]|false=>exact I2 (d▸c)
def VA{e:Nat}{b:W ah}{d:W ik}{c:Nat->au}(f:∀j g,b[j]?=Q g->∃k,d[j]?=Q k/\bP e (c j) g.dst k.d=Q (c<|j+1)){a:Nat}{v:X}:∀i,i<=Y b->aO (c i) a=Q v->(∃h g k,h<i/\b[h]?=Q g/\d[h]?=Q k/\g.dst=Q a/\v=k.d)\/((∀h g,h<i->b[h]?=Q g->g.dst≠Q a)/\aO (c 0) a=Q v):=λi=>by induction i with|zero=>exactλ_ l=>.inr ⟨λh g w=>L,l⟩|succ i hf=>intro hj l;obtain⟨g,q⟩:∃g,b[i]?=Q g:=⟨b[i],e7 L⟩;let⟨k,he,m⟩:=f i g q;(have x:aO (c i) a=Q v->g.dst≠Q a->(∃h g k,h<i+1/\b[h]?=Q g/\d[h]?=Q k/\g.dst=Q a/\v=k.d)\/((∀h g,h<i+1->b[h]?=Q g->g.dst≠Q a)/\aO (c 0) a=Q v):=λha hb=>by obtain⟨h,s,hh,w,hg⟩|⟨hd,z⟩:=hf L ha;exact .inl ⟨h,s,hh,L,hg⟩;refine .inr ⟨λh s w r=>?_,z⟩;obtain hc|hi:=dy h i;exact hd h s hc r;have:h=i:=L;subst this;cases q▸r;exact hb);cases n:g.dst with|none=>rw[n]at m;have p:=(cx m).symm;exact x (p▸l) (by rw[n];simp)|some t=>rw[n]at m;simp[bP]at m;cases u:cc t e with|false=>cases u▸m|true=>have p:=(cx (u▸m)).symm;rw[p,cT]at l;cases o:aw a t with|true=>cases o▸l;exact .inl ⟨i,g,k,L,q,he,n▸b8 o▸J,J⟩|false=>rw[o]at l;exact x l (by rw[n];intro y;cases y;rw[cF]at o;cases o)
def Uu{f a c e}{b:bv aJ->aX->ap->Prop}(d:∀v k y,b v k y->aj v=aj a)(h:∀(s)(x)(t),a[s]?=Q x->t∈x.after->hY .any t=K->t.on<s)(i:∀y k z x,b y k z->x∈zr .any a y->wpOpIn e 0 f a c x (λn o=>b (y.setIfInBounds x K) n o) k z)(g:∀w l m,b w l m->(∀j,j<aj a->w.getD j N=K)->c .normal l m):∀(n)(z)(m)(y),b z m y->z.toList.count N<=n->wpAnyIn e 0 f .any a c n z m y:=by
 let f:∀c e x,b c e x->zr .any a c=[]->∀j,j<aj a->c.getD j N=K:=λb c z l v j=>by induction j using vO with|_ j w=>intro m;cases q:b.getD j N with|true=>rfl|false=>let s:j<aj b:=d b c z l▸m;let r:=qP.2 ⟨by simpa[s]using q,a[j],zH m,λu p o=>w u.on (h j _ u (zH m) p o)<|J4 (h j _ u (zH m) p o) m⟩;cases v▸r
 intro b;induction b with|zero=>intro l s e v h;(let t:zr .any a l=[]:=by rw[aaw];intro u h;let⟨k,r,_⟩:=(qP.1 h).2;let q:u<aj l:=d l s e v▸(uw.1 r).1;(let o:l[u]=N:=by simpa[q]using (qP.1 h).1);let p:N∈aG l:=o▸Ki q;have:=PR.2 p;omega);exact⟨t,g l s e v<|f l s e v t⟩|succ h u=>intro k n r o a;refine⟨λt=>g k n r o<|f k n r o t,λq w=>?_⟩;let⟨e,g,_⟩:=(qP.1 w).2;let p:q<aj k:=d k n r o▸(uw.1 g).1;(let a:k[q]=N:=by simpa[p]using (qP.1 w).1);refine wpOpIn_mono (λd b g=>u _ d b g ?_)<|i k n r q o w;let i:N∈aG k:=a▸Ki p;(let d:(aG k)[q]'(by simpa using p)=N:=by simpa using a);rw[aaZ,asy (by simpa using p),d];rw[aC<|show(N==N)=K from rfl,ak (show¬(K==N)=K by decide)];omega
def apO{b c}(a:Po b c=K):b=c:=by unfold Po at a;split at a;rw[cQ,Nw]at a;rw[ej a.1,ej a.2];rw[beq_iff_eq]at a;rw[a];rw[show _=_ from ej a];rfl;rfl;rfl;rfl;rfl;rfl;cases a
mutual
def Zc:∀(c b:X),kK c b=K->c=b|.k c,.k b,a=>by simp only[kK]at a;rw[apO a]|.a d n,.a e o,a=>by simp only[kK,cQ]at a;rw[b8 a.1,b8 a.2]|.d f d e g,.d l h i m,a=>by simp only[kK,cQ]at a;rw[b8 a.1.1.1,b8 a.1.1.2,b8 a.1.2,b8 a.2]|.g d,.g e,a=>by simp only[kK]at a;rw[b8 a]|.h d,.h e,a=>by simp only[kK]at a;rw[b8 a]|.f h f d,.f i e g,a=>by simp only[kK,cQ]at a;rw[b8 a.1.1,E1 f e a.1.2,E1 d g a.2]|.e p c,.e q b,a=>by simp only[kK,cQ]at a;rw[b8 a.1,Zc c b a.2]|.i _,b,a=>by cases b<;>simp[kK]at a|.b _,b,a=>by cases b<;>simp[kK]at a|.c _,b,a=>by cases b<;>simp[kK]at a|.k _,.a _ _,a|.k _,.d _ _ _ _,a|.k _,.g _,a|.k _,.h _,a|.k _,.f _ _ _,a|.k _,.i _,a|.k _,.e _ _,a|.k _,.b _,a|.k _,.c _,a=>by simp[kK]at a|.a _ _,.k _,a|.a _ _,.d _ _ _ _,a|.a _ _,.g _,a|.a _ _,.h _,a|.a _ _,.f _ _ _,a|.a _ _,.i _,a|.a _ _,.e _ _,a|.a _ _,.b _,a|.a _ _,.c _,a=>by simp[kK]at a|.d _ _ _ _,.k _,a|.d _ _ _ _,.a _ _,a|.d _ _ _ _,.g _,a|.d _ _ _ _,.h _,a|.d _ _ _ _,.f _ _ _,a|.d _ _ _ _,.i _,a|.d _ _ _ _,.e _ _,a|.d _ _ _ _,.b _,a|.d _ _ _ _,.c _,a=>by simp[kK]at a|.g _,.k _,a|.g _,.a _ _,a|.g _,.d _ _ _ _,a|.g _,.h _,a|.g _,.f _ _ _,a|.g _,.i _,a|.g _,.e _ _,a|.g _,.b _,a|.g _,.c _,a=>by simp[kK]at a|.h _,.k _,a|.h _,.a _ _,a|.h _,.d _ _ _ _,a|.h _,.g _,a|.h _,.f _ _ _,a|.h _,.i _,a|.h _,.e _ _,a|.h _,.b _,a|.h _,.c _,a=>by simp[kK]at a|.f _ _ _,.k _,a|.f _ _ _,.a _ _,a|.f _ _ _,.d _ _ _ _,a|.f _ _ _,.g _,a|.f _ _ _,.h _,a|.f _ _ _,.i _,a|.f _ _ _,.e _ _,a|.f _ _ _,.b _,a|.f _ _ _,.c _,a=>by simp[kK]at a|.e _ _,.k _,a|.e _ _,.a _ _,a|.e _ _,.d _ _ _ _,a|.e _ _,.g _,a|.e _ _,.h _,a|.e _ _,.f _ _ _,a|.e _ _,.i _,a|.e _ _,.b _,a|.e _ _,.c _,a=>by simp[kK]at a
def E1:∀(c b:W X),vC c b=K->c=b|[],[],_=>rfl|[],_::_,a=>by simp[vC]at a|_::_,[],a=>by simp[vC]at a|c::j,b::k,a=>by simp only[vC,cQ]at a;rw[Zc c b a.1,E1 j k a.2]
end
def an4{b c}(a:OL b c=K):b=c:=by unfold OL at a;split at a;rfl;rw[E1 _ _ a];simp only[cQ]at a;rw[b8 a.1.1.1,b8 a.1.1.2,b8 a.1.2,E1 _ _ a.2];cases a
abbrev mC(a:bv aJ):Nat->aJ:=λb=>a.getD b N
def ajT{a b}(c:b<aj a):mC (a.setIfInBounds b K)=jp (mC a) b:=by funext d;show(a.setIfInBounds b K).getD d N=jp (mC a) b d;rw[qV,vQ];by_cases e:b=d;subst e;rw[aC J,aC c,vy];rfl;rw[ak e,vx<|λf=>e f.symm];show(a[d]?).getD N=a.getD d N;rw[qV]
structure GU(hd:List ik)(q:List ah)(hb:List Nat)(he:aA)(u:Nat)(hk:ap)(hh:List Nat)(hi:Nat)(hg:au)(hf:List bz)(z:bs)(p:Array Bool)(t:aX)(hj:ap)(o:bs)(y:aA):Prop where
 m:aj p=Y q
 h:wz (gl hb) (mC p)
 f:g6 (dp hd) (gl hb) he (mC p) y
 b:aZ hk hh o y hj
 k:cI z o
 i:∀j,rq u j->o j=z j
 a:u+Y q<=y.f
 e:∀w,w<Y q->mC p w=N->o (u+w)=Z
 n:g7 o hf=Q t.defers
 d:hi<=aj t.tmps
 c:∀j r ha hc,q[j]?=Q r->hd[j]?=Q hc->mC p j=K->r.dst=Q ha->∃s,aT o hc.d=Q s/\t.tmps[ha]?=Q s
 g:∀x v,aO hg x=Q v->(∀j r,q[j]?=Q r->r.dst=Q x->mC p j=N)->∃s,aT o v=Q s/\t.tmps[x]?=Q s
section
variable{u:W ik}{x:W ah}{t:W Nat}{o:aA}{w:Nat}{n:ap}{m:W Nat}{s:Nat}{k:au}{i:W bz}{h:bs}{r:bv aJ}{z:aX}{e g:ap}{q y:bs}{f p:aA}
def GU.l(ha:GU u x t o w n m s k i h r z e q f){hc}{hb:ah}{hg hd}(hf:x[hc]?=Q hb)(ho:u[hc]?=Q hg)(hh:∀hr,gl t hc hr=K->mC r hr=K)(hj:∀(j)(hx:ah)(hs:Nat),x[j]?=Q hx->j≠hc->hb.dst=Q hs->hx.dst≠Q hs)(hi:∀hs,hb.dst=Q hs->hs<s)(hq:aT y hg.d=Q hd)(hl:g6 (dp u) (gl t) o (jp (mC r) hc) p)(hp:aZ n m y p g)(he:cI q y)(hm:∀hr,rq w hr->y hr=q hr)(hn:f.f<=p.f)(hk:∀hr,hr<Y x->hr≠hc->q (w+hr)=Z->y (w+hr)=Z):GU u x t o w n m s k i h (r.setIfInBounds hc K) (z.put hb.dst hd) g y p:=by
 have h0:=ajT (by rw[ha.m];exact (bc.1 hf).1);have h6:∀hu:Nat,hb.dst≠Q hu->(z.put hb.dst hd).tmps[hu]?=z.tmps[hu]?:=λhu h2=>by rcases ht:hb.dst with _|hs;rfl;show(z.tmps.setIfInBounds hs hd)[hu]?=z.tmps[hu]?;rw[vQ,ak<|λhw=>h2 (by rw[ht,hw])]
 refine⟨by rw[vT];exact ha.m,?_,?_,hp,ha.k.a he,λhr h1=>(hm hr h1).trans<|ha.i hr h1,df ha.a hn,?_,?_,?_,?_,?_⟩;rw[h0];exact ana ha.h hh;rw[h0];exact hl;intro hr h1 hv;rw[h0]at hv;have h7:hr≠hc:=λhw=>by rw[hw,vy]at hv;cases hv
 rw[vx h7]at hv;exact hk hr h1 h7<|ha.e hr h1 hv;have ht:(z.put hb.dst hd).defers=z.defers:=by cases hb.dst<;>rfl
 rw[ht];exact A7 he _ _ ha.n;rcases ht:hb.dst with _|hs;exact ha.d;show s<=aj (z.tmps.setIfInBounds hs hd);rw[vT];exact ha.d
 intro j hx hs kc hy h3 hv ht;rw[h0]at hv;by_cases hz:j=hc;subst hz;rw[hf]at hy;cases hy;rw[ho]at h3;cases h3;refine⟨hd,hq,?_⟩;rw[ht];show(z.tmps.setIfInBounds hs hd)[hs]?=Q hd;rw[vQ,aC J,aC<|mN (hi hs ht) ha.d];rw[vx hz]at hv;let⟨h5,h4,h2⟩:=ha.c j hx hs kc hy h3 hv ht;refine⟨h5,l6 he _ _ h4,?_⟩;rw[h6 hs<|λhw=>hj j hx hs hy hz hw ht];exact h2;intro hu v h2 h8;have kb:hb.dst≠Q hu:=λhw=>by have:=h8 hc hb hf hw;rw[h0,vy]at this;cases this
 let⟨h5,h4,h9⟩:=ha.g hu v h2 (λj hx hy ht=>by have:=h8 j hx hy ht;rw[h0]at this;by_cases hz:j=hc;rw[hz,vy]at this;cases this;rw[vx hz]at this;exact this);exact⟨h5,l6 he _ _ h4,by rw[h6 hu kb];exact h9⟩
end
def ajt{a h g c d e f}(b:∀l,a l≠.d->c l=d l)(i:g6 a h g c e)(j:g6 a h g d f):f.f=e.f/\∀n t,f.a n=Q t->e.a n=Q t:=by let⟨k,e,g,x⟩:=i;let⟨s,f,h,y⟩:=j;have k:∀m n p,a m=.a n p->c m=d m:=λq v w i=>b q (by rw[i];simp);have v:=BB k e f;subst v;refine⟨h▸g▸J,λo u l=>(x o u).2 ?_⟩;obtain⟨r,p,c,a⟩|⟨w,m⟩:=(y o u).1 l;exact .inl ⟨r,p,b r (by rw[p];simp)▸c,λz=>a<|qE k z⟩;exact .inr ⟨λs t q d=>qE (λu o r j=>(k u o r j).symm)<|w s t q<|b s (by rw[q];simp)▸d,m⟩
def OC{h o c n k g m b f l e i j}(a:rS h o c n k g m b f l=Q e)(d:e.c=.b i j):i=g/\e.b=N/\e.a=ff c f b/\bx (ff c f b) c b.guard=Q K/\qt h (ff c f b) dT g b=Q (e.d,j):=by rw[rS]at a;split at a;cases a;cases a;cases d;rename_i q;split at a;rename_i v s p;cases a;unfold xh at p;split at p;split at p<;>cases p;cases d;split at p;split at p<;>cases p;cases d;cases p;split at p;rename_i u t r;cases p;cases d;exists J,J,J,q;cases p;split at p<;>cases p;cases d;cases a
def OD{j o c g i n l b e k f h m}(a:rS j o c g i n l b e k=Q f)(d:f.c=.a h m):f.a=ff c e b/\bx (ff c e b) c b.guard=Q K/\h=tM (ic<|lm g l) g k i/\II j o (ff c e b) h n b=Q (f.d,m):=by rw[rS]at a;split at a;cases a;cases a;cases d;rename_i q;split at a;rename_i v s p;cases a;unfold xh at p;split at p;split at p<;>cases p;cases d;split at p;split at p<;>cases p;cases d;cases p;split at p<;>cases p;cases d;split at p;rename_i u t r;cases p;cases d;exists J,q,J;cases p;cases a
def Yu{k o b h j n m a d l g f i}(c:rS k o b h j n m a d l=Q g)(e:g.c=.c f i):g.a=ff b d a/\bx (ff b d a) b a.guard=Q K/\Bz (ff b d a) a.op=.c f/\(tM (ic<|lm h m) h l j).a f=Q i/\eb k (ff b d a) (dT.c f<|Q i) a=Q g.d:=by
 rw[rS]at c;split at c;cases c;cases c;cases e;rename_i s;split at c;rename_i v w p;cases c;rcases q:Bz (ff b d a) a.op with _|t|_|_;rw[q]at p;simp only[xh]at p;split at p<;>cases p;cases e;rw[q]at p;simp only[xh]at p;split at p;rename_i x r;split at p;rename_i y u;cases p;cases e;exists J,s,J,r;cases p;cases p;rw[q]at p;simp only[xh]at p;split at p<;>cases p;cases e;rw[q]at p;simp only[xh]at p;split at p<;>cases p;cases e
 cases c
def Yt{g m b k h l j a d i e}(c:rS g m b k h l j a d i=Q e)(f:e.c=.d):e.a=ff b d a/\((bx (ff b d a) b a.guard=Q N/\e.d=.c [])\/(bx (ff b d a) b a.guard=Q K/\eb g (ff b d a) dT a=Q e.d)):=by rw[rS]at c;split at c;cases c;rename_i p;cases c;exact⟨J,.inl ⟨p,J⟩⟩;rename_i q;split at c;rename_i v r n;cases c;unfold xh at n;split at n;split at n;rename_i s o;cases n;exact⟨J,.inr ⟨q,o⟩⟩;cases n;split at n;split at n<;>cases n;cases f;cases n;split at n<;>cases n;cases f;split at n<;>cases n;cases f;cases c
def WK{c a b}(d:c[a]?=Q b):dp c a=b.c:=by rw[dp,d]
def rK{b a}(c:dp b a≠.d):∃e,b[a]?=Q e/\dp b a=e.c:=by cases d:b[a]? with|none=>exact aE (by rw[dp,d]) c|some f=>exact⟨f,J,WK d⟩
def WM{c b a}(d:a<b):dp (c.take b) a=dp c a:=by unfold dp;rw[pW,aC d]
def Vw{a:aD}(c:a.follows .mixedOrders=K)(d:fc a){b:fG}(e:rv a b):LU a (HB a b):=by intro m ho g hh hn h5 he z y n u;rw[HB]at u;cases g:cc (he.f+aj hh) 15999 with|false=>rw[g]at u;cases u|true=>rw[g,b4,Vv]at u;(have i:he.f+aj hh<15999:=by simpa using g);generalize ht:rA (aG hh) []=s at u;generalize hw:(aG hh)=ha at u ht;(have hx:Y ha=aj hh:=by rw[<-hw];simp);generalize kd:he.d (aj hh)=hb at u;(have kv:hb.f=he.f+Y ha:=by rw[<-kd,hx];rfl);cases k:BM a b ho hh s hb he.f ha 0 hn []with|none=>rw[k]at u;cases u|some g=>let⟨i,f⟩:=g;rw[k,Vu]at u;cases f:MD s ha i with|false=>rw[f]at u;cases u|true=>rw[f,b4]at u;cases u;rw[MD]at f;simp only[cQ]at f;let⟨⟨⟨⟨⟨hu,h8⟩,t⟩,l⟩,hf⟩,hg⟩:=f;let⟨o,hv,n,kh,kn,kw,m⟩:=XZ ha 0 hn [] k;simp only[se,eK]at n m;subst n;have h1:=m;(have hp:∀f z,i[f]?=Q z->∃m,ha[f]?=Q m/\rS a b hh s hb (he.f+f) f m (hv f) (i.take f)=Q z:=λf z y=>by have hs:f<Y ha:=kh▸(bc.1 y).1;let⟨ky,n,a,_⟩:=h1 f ha[f]<|e7 hs;rw[y]at n;cases n;exists _,e7 hs);(have hr:∀f m q,ha[f]?=Q m->q∈aG m.after->hY .any q=K->q.on<f:=λf m q y hj hz=>by have n:=(lR.1<|l4 t y) q hj;rw[hz]at n;simpa using n);have hs:=ajX hr;have h6:=ajY hr;rw[ht]at hs h6;(have h3:∀j g r,dp i j=.b g r->g=he.f+j/\g<bi:=λj g r t=>by let⟨z,n,a⟩:=rK (b:=i) (a:=j) (by rw[t];simp);let⟨m,hc,hk⟩:=hp j z n;have hy:=(OC hk<|a▸t).1;have:=(bc.1 hc).1;exact⟨hy,by rw[bi];omega⟩);(have h7:∀f j p g o b,dp i f=.a p g->dp i j=.a o b->j<f->gl s f j=K:=λf j p g o b y t hl=>by let⟨hd,n,a⟩:=rK (b:=i) (a:=f) (by rw[y];simp);let⟨k,h,x⟩:=rK (b:=i) (a:=j) (by rw[t];simp);have w:=l4 l n;rw[show hd.c=.a p g by rwa[<-a]]at w;simp only at w;have l:=l4 w h;rw[show k.c=.a o b by rwa[<-x],lu,zJ]at l;obtain l|l:=l;rw[show cc j f=K by simpa using hl]at l;cases l;exact l);(have kf:∀f p g k hi r,dp i f=.a p g->dp i k=.b hi r->gl s f k=N->g.a hi=Z:=λf p g k hi r y o b=>by let⟨hd,n,a⟩:=rK (b:=i) (a:=f) (by rw[y];simp);let⟨hm,h,x⟩:=rK (b:=i) (a:=k) (by rw[o];simp);have w:=l4 hf n;rw[show hd.c=.a p g by rwa[<-a]]at w;simp only at w;have l:=l4 w h;rw[show hm.c=.b hi r by rwa[<-x],lu]at l;obtain l|l:=l;rw[show ic (lm s f) k=N from b]at l;cases l;cases kg:g.a hi with|none=>rfl|some _=>rw[kg]at l;cases l);(have h9:∀f b r q p g,dp i f=.c b r->dp i q=.a p g->gl s f q=N->gl s q f=N->p.a b=g.a b:=λf b r q p g y hj hf hq=>by let⟨hd,n,a⟩:=rK (b:=i) (a:=f) (by rw[y];simp);let⟨hm,h,x⟩:=rK (b:=i) (a:=q) (by rw[hj];simp);have w:=l4 hg n;rw[show hd.c=.c b r by rwa[<-a]]at w;simp only at w;have l:=l4 w h;rw[show hm.c=.a p g by rwa[<-x]]at l;simp only[lu]at l;obtain(l|l)|l:=l;rw[show ic (lm s f) q=N from hf]at l;cases l;rw[show ic (lm s q) f=N from hq]at l;cases l;exact an4 l);(have ka:∀f b r k hf,dp i f=.c b r->dp i k=.b b hf->gl s f k=K:=λf b r k hf y o=>by let⟨hd,n,a⟩:=rK (b:=i) (a:=f) (by rw[y];simp);let⟨hm,h,x⟩:=rK (b:=i) (a:=k) (by rw[o];simp);have w:=l4 hg n;rw[show hd.c=.c b r by rwa[<-a]]at w;simp only at w;have l:=l4 w h;rw[show hm.c=.b b hf by rwa[<-x],lu,cF,xW,ie,false_or]at l;exact l);have ko:∀h0,∃hf,g6 (dp i) (gl s) hb h0 hf:=λh0=>⟨_,Ns (y:=s) (b:=hb) (z:=h0) h3⟩;(have km:∀f,g6 (dp i) (gl s) hb (gl s f) (tM (ic<|lm s f) s (i.take f) hb):=λf=>by refine ajs (c:=dp<|i.take f) (λk o=>WM<|hs f k o)<|Ns (c:=he.f) (λj g r t=>by(have hl:j<f:=by obtain hq|hq:=dy j f;exact hq;(have:(i.take f)[j]?=Z:=by rw[ix];rw[jw];omega);rw[dp,this]at t;cases t);rw[WM hl]at t;exact h3 j g r t));(have kk:∀q p g,dp i q=.a p g->g6 (dp i) (gl s) hb (gl s q) p:=λq p g hj=>by let⟨z,n,a⟩:=rK (b:=i) (a:=q) (by rw[hj];simp);let⟨m,hc,hk⟩:=hp q z n;have kp:=(OD (h:=p) (m:=g) hk<|a▸hj).2.2.1;rw[kp];exact km q);(have kr:∀(f j:Nat)(m g:ah)(hg:Nat),ha[f]?=Q m->ha[j]?=Q g->j≠f->m.dst=Q hg->g.dst≠Q hg:=λf j m g hg y t hl x hy=>by have w:=l4 hu y;rw[x]at w;simp only at w;have l:=l4 w t;rw[hy]at l;simp only[cF,xW,Qg]at l;exact hl (b8 l).symm);(have ki:∀(f:Nat)(m:ah)(hg:Nat),ha[f]?=Q m->m.dst=Q hg->hg<ho:=λf m hg y x=>by let⟨z,_,_,hc⟩:=h1 f m y;rw[x,bP]at hc;cases h:cc hg ho with|false=>rw[h]at hc;cases hc|true=>simpa using h);(have kq:∀j m,ha[j]?=Q m->∃z,i[j]?=Q z/\bP ho (hv j) m.dst z.d=Q (hv<|j+1):=λj m t=>by let⟨z,n,_,hc⟩:=h1 j m t;exists z,n);intro h4 ku kc kb hp hu h kl ke;have h2:ve (dp i) (gl s) hb he.f:=⟨h6,hs,h7,kf,h9,ka,λk hi r o=>(h3 k hi r o).1,λk=>kd▸(kl.d (he.f+k) L).2⟩;refine wpIn_region_any c<|Uu (b:=λh4 hu hp=>∃hd hf,GU i ha s hb he.f ku kc ho hn h5 kb h4 hu hp hd hf) ?_ ?_ ?_ ?_ _ _ _ _ ?_ ?_;rintro h4 hu hp⟨hd,hf,h⟩;rw[h.m,hx];intro f m q y hj hz;exact hr f m q (by rw[<-hw];simpa using y) (by simpa using hj) hz;rintro hn hu hp f⟨hd,hf,h⟩y;let⟨c,m,h6,h4⟩:=qP.1 y;(have hj:ha[f]?=Q m:=by rw[<-hw];simpa using h6);(have hz:mC hn f=N:=by have hw:f<aj hn:=h.m▸(bc.1 hj).1;show hn.getD f N=N;simpa[Array.getD,hw]using c);(have hw:∀k,gl s f k=K->mC hn k=K:=λk o=>by rw[<-ht]at o;let⟨c,q,n,a,hc,hk⟩:=(Iw hr f k).1 o;rw[hj]at n;cases n;have c:=h4 q (by simpa using a) hc;obtain rfl|hk:=hk;exact c;exact h.h q.on k c<|ht▸hk);let⟨z,h4,o,_⟩:=h1 f m hj;have hr:=WK h4;(have hk:b0 ho hu (ff hh (hv f) m) h5 hd:=by refine⟨⟨h.d,λho v ht=>?_⟩,h.n⟩;have h7:=Y2 ht;(have h5:z.a=ff hh (hv f) m:=by cases c:z.c with|d=>exact(Yt o c).1|c b r=>exact(Yu o c).1|b hi r=>exact(OC o c).2.2.1|a p g=>exact(OD o c).1);(have h1:∀j g,ha[j]?=Q g->g.dst=Q ho->gl s f j=K:=λj g t x=>by have w:=l4 h8 h4;rw[h5]at w;have l:=(lR.1 w) _ h7;have w:=l4 l t;rw[x]at w;simp only[cF,xW,xV]at w;exact w);obtain⟨k,h9,hm,h7,n,a,hc,rfl⟩|⟨kj,hv⟩:=VA kq f (by have:=(bc.1 hj).1;omega) (I2 ht);exact h.c k h9 ho hm n a (hw k<|h1 k h9 n hc) hc;rw[kn]at hv;refine h.g ho v hv λj g t x=>?_;have hl:=hs f j<|h1 j g t x;exact aE x<|kj j g hl t);have hs:=λ(h1:bs)(ka:aA)(l:bh)(w:ap)=>h.l (y:=h1) (p:=ka) (hd:=l) (g:=w) hj h4 hw (λj g hg t hl x=>kr f j m g hg hj t hl x)<|λhg x=>ki f m hg hj x;(have kr:he.f+f<hf.f:=by have:=h.a;have:=(bc.1 hj).1;omega);have h4:=h.e f (bc.1 hj).1 hz;have w:=(bc.1 hj).1;rw[wpOpIn,h6];simp only;(cases c:z.c with|d=>have h6:=Wf (λp g=>by rw[hr,c];simp) (λhi r=>by rw[hr,c];simp) h.f;obtain⟨w,ht⟩|⟨w,ki⟩:=(Yt o c).2;rw[ft hk w];simp only[ie,gV];existsλ_ _=>C,hd,hf;exact hs hd hf ee hp (by rw[ht];rfl) h6 h.b (cI.c _) (λ_ _=>rfl) (bd _)<|λ_ _ _ u=>u;rw[ft hk w];simp only[jy];refine akK h.b.ne hk ki λl hl x kf=>?_;exact⟨hd,hf,hs hd hf l hl x h6 (h.b.g kf) (cI.c _) (λ_ _=>rfl) (bd _)<|λ_ _ _ u=>u⟩|c b r=>have h6:=Wf (λp g=>by rw[hr,c];simp) (λhi r=>by rw[hr,c];simp) h.f;let⟨_,w,kx,h5,ki⟩:=Yu o c;rw[ft hk w];simp only[jy];have ks:=ann h2 ko kk (h:=Y ha) (hr▸c) (km f) h5 (λkt p g h8=>by let⟨ky,n,_⟩:=rK (b:=i) (a:=kt) (by rw[h8];simp);rw[<-kh];exact(bc.1 n).1) h.f h.h hz hw;have km:b<bi:=h.b.m ks;have ky:aZ ku kc hd (dT.c b<|Q r) hp:=h.b.nk (λkc l hj=>by rw[aA.b _ km]at hj;by_cases q:kc=b;subst q;rw[aC J]at hj;cases hj;exact ks;rw[ak q,D1]at hj;cases hj) h.b.i (bd _) (λkc hj=>by rw[aA.b _ km,ak (by have:bi<=kc:=hj;omega)];rfl);refine anp kx ky hk ki λl x=>?_;exact⟨hd,hf,hs hd hf l hp x h6 h.b (cI.c _) (λ_ _=>rfl) (bd _)<|λ_ _ _ u=>u⟩|b hi r=>let⟨hi,_,_,w,u⟩:=OC o c;subst hi;rw[ft hk w];simp only[jy];refine agx h.b.ne hk h4 u λl hl p x kf hi h6=>?_;have kc:=h.b.g kf;have u:=ai5 h2 (hr▸c) h.h hz (by rw[bi];omega) h.f;have hj:=kc.nc (q:=p) (s:=r) kr h4 hi (.inr<|df h.b.c.a h6) (λj kc g t hy q=>by have:=h.b.nb t hy;omega);refine⟨cX hd (he.f+f) p,hf.c (he.f+f)<|Q r,hs _ _ l hl x u hj (cI.b h4 p) (λk o=>by rw[cX,ak (by rw[rq,bi]at o;omega)]) (bd _) (λk o h7 he=>by rwa[cX,ak L])⟩|a p g=>let⟨_,w,kp,hy⟩:=OD o c;rw[ft hk w];simp only[jy];have r:dp i f=.a p g:=hr▸c;let⟨u,q⟩:=air h2 r (kk f p g r) h.f h.h hz hw;let⟨ka,w⟩:=ko<|jp (mC hn) f;let⟨c,hi⟩:=aiq h2 r (kk f p g r) h.f w h.h hz hw;have hr:=h.b.nj u q;refine aip d e hr hk h4 (q▸kr) hy λl hl h1 r hj p x hw=>?_;have d:=h.b.ni u q r hw c hi;refine⟨h1,ka,hs _ _ l hl x w d r (λk o=>p k (o.a (by rw[q];have:=h.a;omega)) (by rw[rq,bi]at o;omega)) (c▸q▸hj) (λk o h7 he=>by rwa[p _ (.inl (by rw[q];have:=h.a;omega)) L])⟩);rintro hn hu hp⟨hd,hf,h⟩u;(have e:∀k,dp i k≠.d->mC hn k=K:=λk o=>by let⟨z,n,_⟩:=rK o;exact u k<|hx▸kh▸(bc.1 n).1);let⟨d,h5⟩:=ajt (c:=mC hn) (d:=λ_=>K) (λk o=>e k o) h.f<|Ns (y:=s) (b:=hb) h3;refine⟨J,hd,⟨h.k,?_,h.i⟩,h.b.nk h5 (d▸bd _) (d▸h.b.i)<|λf y=>?_,⟨h.d,λho v ht=>?_⟩,h.n⟩;rw[d];have:=h.a;omega;(cases kg:(tM (λ_=>K) s i hb).a f with|none=>rfl|some l=>have:=h.b.k<|h5 f l kg;rw[d]at y;omega);rw[<-kw]at ht;rcases VA kq (Y ha) (bd _) ht with⟨k,h9,hm,h7,n,a,hc,rfl⟩|⟨kj,hv⟩;exact h.c k h9 ho hm n a (u k<|hx▸h7) hc;rw[kn]at hv;exact h.g ho v hv λj g t x=>aE x<|kj j g (bc.1 t).1 t;(have i:mC (vR (aj hh) N)=λ_=>N:=by funext k;show(vR (aj hh) N).getD k N=N;rw[qV,Qb];split<;>rfl);refine⟨kb,hb,⟨vS▸hx▸J,(λkt k h8=>by rw[i]at h8;cases h8),?_,?_,cI.c kb,λ_ _=>rfl,kv▸bd _,λk o _=>(kl.d _ L).1 (by rw[bi];omega),ke.d,ke.b.1,(λf m hg z _ _ hq=>by rw[i]at hq;cases hq),λho v s _=>ke.b.2 ho v s⟩⟩;rw[i];refine⟨hb,.inr ⟨λ_ _ _ _=>rfl,J⟩,J,λb l=>?_⟩;rw[yr];constructor;exactλe=>.inr ⟨nofun,e⟩;rintro(⟨k,_,hq,_⟩|⟨_,e⟩);cases hq;exact e;rw[<-kd];exact(kl.nf _).ng (aj hh) (by rw[bi];omega);simp[asx]
mutual
def dv(a:Nat->Nat):X->X|.k d=>.k d|.a b e=>.a (a b) e|.d b e c j=>.d (a b) e c j|.g b=>.g (a b)|.h b=>.h (a b)|.f h f g=>.f h (eS a f) (eS a g)|.i b=>.i (a b)|.e k d=>.e k (dv a d)|.b c=>.b (eS a c)|.c c=>.c (eS a c)
def eS(a:Nat->Nat):W X->W X|[]=>[]|d::i=>dv a d::eS a i
end
mutual
def qv(a:bs)(b:Nat->Nat):∀v:X,aT (λf=>a<|b f) v=aT a (dv b v)|.k e=>rfl|.a d i=>rfl|.d d i c j=>rfl|.g d=>rfl|.h d=>rfl|.f l g h=>by simp only[aT,dv];rw[sL a b g,sL a b h]|.i d=>rfl|.e m e=>by simp only[aT,dv];rw[qv a b e]|.b c=>by simp only[aT,dv];rw[sL a b c]|.c c=>by simp only[aT,dv];rw[sL a b c]
def sL(a:bs)(b:Nat->Nat):∀c:W X,bm (λf=>a<|b f) c=bm a (eS b c)|[]=>rfl|e::k=>by simp only[bm,eS];rw[qv a b e,sL a b k]
end
mutual
def Ow(a b:Nat->Nat):∀v:X,dv a (dv b v)=dv (λf=>a<|b f) v|.k e=>rfl|.a d i=>rfl|.d d i c j=>rfl|.g d=>rfl|.h d=>rfl|.f l g h=>by simp only[dv];rw[BV a b g,BV a b h]|.i d=>rfl|.e m e=>by simp only[dv];rw[Ow a b e]|.b c=>by simp only[dv];rw[BV a b c]|.c c=>by simp only[dv];rw[BV a b c]
def BV(a b:Nat->Nat):∀c:W X,eS a (eS b c)=eS (λf=>a<|b f) c|[]=>rfl|e::k=>by simp only[eS];rw[Ow a b e,BV a b k]
end
mutual
def EL:∀v:X,dv (λd=>d) v=v|.k c=>rfl|.a b g=>rfl|.d b g a j=>rfl|.g b=>rfl|.h b=>rfl|.f i e f=>by simp only[dv];rw[BU e,BU f]|.i b=>rfl|.e k c=>by simp only[dv];rw[EL c]|.b a=>by simp only[dv];rw[BU a]|.c a=>by simp only[dv];rw[BU a]
def BU:∀a:W X,eS (λd=>d) a=a|[]=>rfl|c::h=>by simp only[eS];rw[EL c,BU h]
end
def zi(b:Nat->Nat)(a:au):au:=a.map λc=>(c.1,dv b c.2)
def OY(b)(a):∀c:au,aO (zi b c) a=(aO c a).map (dv b)|[]=>rfl|(j,v)::d=>by show aO ((j,dv b v)::zi b d) a=_;rw[cT,cT,OY b a d];cases aw a j<;>rfl
def Uh(b)(a)(c)(d)(e):iS (λf=>b<|a f) c d e↔iS b (zi a c) d e:=by refine and_congr up ⟨λh f v g=>?_,λh f v g=>?_⟩;rw[OY,b3]at g;obtain⟨m,l,rfl⟩:=g;let⟨k,j,i⟩:=h f m l;exact⟨k,by rw[<-qv];exact j,i⟩;let⟨k,j,i⟩:=h f (dv a v) (by rw[OY,g];rfl);exact⟨k,by rw[qv];exact j,i⟩
def qH(b:Nat->Nat)(a:W (ac×X)):W (ac×X):=a.map λc=>(c.1,dv b c.2)
def Vo(a)(b):∀(d)(c),pK (λe=>a<|b e) d c↔pK a (qH b d) c|[],[]=>up|(i,v)::g,h::f=>by show(_/\_/\_)↔(_/\_/\_);rw[qv,Vo a b g f];exact up|[],_::_=>up|_::_,[]=>up
def eR(a:Nat->Nat):P->P|.a l=>.a (eS a l)|.b f z j m=>.b f z j (eS a m)|.c g=>.c (qH a g)|.d d k=>.d d k|.g x s b q u c e=>.g x s (zi a b) q u c e|.f=>.f|.l o=>.l (a o)|.k n b i=>.k (eS a n) b i|.i g=>.i g|.h p e w=>.h (a p) e w|.e h y t c r v d f=>.e h y t (zi a c) r v d f
def To(a)(d)(c)(b):∀e:P,e1 (λf=>a<|d f) c e b↔e1 a c (eR d e) b|.a p=>by simp[e1,eR,sL]|.b j b n q=>by simp[e1,eR,sL]|.c k=>by simp[e1,eR,Vo]|.d i o=>up|.g z v g t x d f=>by simp[e1,eR,Uh]|.f=>up|.l s=>up|.k r c m=>by simp[e1,eR,sL]|.i _=>up|.h _ _ _=>up|.e l a w h u y e g=>by simp[e1,eR,Uh]
structure cR(x)(t)(r:bs)(y)(s:Nat->Option P)(w):Prop where
 c:hK t x w
 a:∀p,y<=p->r p=Z/\s p=Z
 b:∀(p)(v),s p=Q v->∃q,r p=Q q/\e1 r q v w.heap[q.1]?/\(q.1∈t\/aj x.heap<=q.1)
 d:∀(p j)(z ha)(q u),s p=Q z->s j=Q ha->r p=Q q->r j=Q u->q.1=u.1->p=j
def bQ(b:W Nat)(c:Nat)(a:Nat):Nat:=match b[a]? with|Q d=>d|Z=>if a<bi then c+(a-Y b)else a-bi
def dd(v:X):X:=dv (λa=>a+bi) v
def bE(a:W X):W X:=eS (λb=>b+bi) a
section
variable{z:W Nat}{y:Nat}
def zj{b a}(c:z[b]?=Q a):bQ z y b=a:=by rw[bQ,c]
def Ox(b:Y z<=bi){j}(a:Y z+j<bi):bQ z y (Y z+j)=y+j:=by rw[bQ,ix L];simp only;rw[aC a];omega
def EN(b:Y z<=bi)(a):bQ z y (a+bi)=a:=by rw[bQ,ix L];simp only;rw[ak L];omega
def iu(a:Y z<=bi)(v):dv (bQ z y) (dd v)=v:=by rw[dd,Ow,show(λb=>bQ z y<|b+bi)=λc=>c from funext λd=>EN a d,EL]
def BW(b:Y z<=bi)(a):eS (bQ z y) (bE a)=a:=by rw[bE,BV,show(λc=>bQ z y<|c+bi)=λd=>d from funext λe=>EN b e,BU]
end
def gx(a:W Nat)(c:Nat)(e:Nat->S P)(d:aA)(b:Nat):S P:=if b∈a then(d.a<|a.idxOf b).map (eR<|bQ a c)else if b<c then e b else if Y a+(b-c)<d.f then(d.a<|Y a+(b-c)).map (eR<|bQ a c)else Z
section
variable{r s p:ap}{q:W Nat}{x:bs}{y:Nat}{w:Nat->S P}{z:W Nat}{u t:aA}
def cR.n(t:cR r q x y w s){j u}(p:w j=Q u):j<y:=by obtain v|v:=dy j y;exact v;cases (t.a j v).2▸p
def cR.h(v:cR r q x y w s){j t p}(u:w j=Q t)(z:x j=Q p):p.1<aj s.heap:=by let⟨hb,p,ha,_⟩:=v.b j t u;cases z▸p;let⟨t,j⟩:=ha.c;exact(uw.1 j).1
def tJ(x:bs)(z:List Nat):List Nat:=z.filterMap λa=>(x a).map (·.1)
def Mz{a}:a∈tJ x z↔∃b c,b∈z/\x b=Q c/\c.1=a:=by unfold tJ;rw[us];constructor;rintro⟨f,i,h⟩;let⟨m,k,d⟩:=b3.1 h;exact⟨f,m,i,k,d⟩;rintro⟨g,n,j,l,e⟩;exact⟨g,j,by rw[l,<-e];rfl⟩
structure kW(z:List Nat)(y:Nat)(w:Nat->Option P)(u:aA):Prop where
 f:u.f=Y z
 c:Y z<=bi
 e:z.Nodup
 a:∀g i,u.a g=Q i->∃h,z[g]?=Q h/\w h=Q (eR (bQ z y) i)
 b:∀g h,z[g]?=Q h->∃i,u.a g=Q i
def kW.d(h:kW z y w u){g}(i:g∈z):∃n o,z[n]?=Q g/\u.a n=Q o/\w g=Q (eR (bQ z y) o):=by let⟨k,j⟩:=iI.1 i;let⟨p,m⟩:=h.b k g j;let⟨r,l,q⟩:=h.a k p m;cases j▸l;exact⟨k,p,j,m,q⟩
def cR.m(t:cR r q x y w s)(p:kW z y w u):aZ s (tJ x z) (λv=>x<|bQ z y v) u s:=by
 refine⟨hK.g _ _,by rw[p.f];exact p.c,λv ha=>?_,λv hd ha=>?_,λv j hm hn hb hl ha hj hc hk hg=>?_⟩;rw[p.f]at ha;refine⟨λhe=>?_,?_⟩;have:=Ox (y:=y) p.c (j:=v-Y z) L;rw[show Y z+(v-Y z)=v by omega]at this;exact(t.a _ L).1;cases hf:u.a v with|none=>rfl|some hd=>let⟨hh,he,_⟩:=p.a v hd hf;cases ix ha▸he
 let⟨he,hf,hh⟩:=p.a v hd ha;let⟨hb,hc,hi,_⟩:=t.b he _ hh;exact⟨hb,by rw[zj hf];exact hc,(To x (bQ z y) hb _ hd).2 hi,.inl<|Mz.2 ⟨he,hb,bl hf,hc,J⟩⟩;let⟨he,hd,hh⟩:=p.a v hm ha;let⟨hf,v,hi⟩:=p.a j hn hj;let ha:=hc;let hc:=hk;rw[zj hd]at ha;have:=t.d he hf _ _ hb hl hh hi ha (zj v▸hc) hg;subst this;exact(PX (bc.1 hd).1 p.e).1 (by rw[hd,v])
def cR.l(v:cR r q x y w s)(hc:kW z y w u){hb}(ha:aZ s (tJ x z) hb t p)(hd:fo u.f t.f (λhe=>x<|bQ z y he) hb):∃he,cI x he/\(∀hf,hf<y->he hf=x hf)/\cI hb (λhg=>he<|bQ z y hg)/\cR r q he (y+(t.f-Y z)) (gx z y w t) p:=by
 let hj:=hc.c;let he:Y z<=t.f:=by rw[<-hc.f];exact hd.2.1
 let he:=ha.i;let hf:=λhe=>if he<y then x he else if Y z+(he-y)<t.f then hb (Y z+(he-y))else Z;let hg:∀he,he<y->hf he=x he:=λhh he=>aC he;let hn:∀he,he∈z->he<y:=λhh he=>by let⟨hi,hk,_,_,hh⟩:=hc.d he;exact v.n hh
 let hl:cI x hf:=λhi he hh=>by rw[hg hi (by obtain he|he:=dy hi y;exact he;cases (v.a hi he).1▸hh)];exact hh
 let hm:∀he,Y z<=he->he<bi->bQ z y he=y+(he-Y z):=λhe hh hi=>by have:=Ox (y:=y) hj (j:=he-Y z) L;rwa[show Y z+(he-Y z)=he by omega]at this
 let hk:cI hb (λhe=>hf<|bQ z y he):=λhe hp hh=>by show hf (bQ z y he)=Q hp;cases hi:z[he]? with|some hj=>let ho:=(bc.1 hi).1;have:=hd.2.2 he<|.inl (by rw[hc.f];exact ho);rw[this]at hh;let ho:x (bQ z y he)=Q hp:=hh;rw[zj hi]at ho⊢;rw[hg hj<|hn hj<|bl hi];exact ho|none=>let ho:=JU.1 hi;obtain hi|hi:=dy he bi;obtain hj|hj:=dy he t.f;rw[hm he ho hi];show(if _ then _ else _)=_;rw[ak L,show Y z+(y+(he-Y z)-y)=he by omega,aC hj];exact hh;rw[(ha.d he hj).1 hi]at hh;cases hh;have:=hd.2.2 he<|.inr hi;rw[this]at hh;exact hl _ _ hh
 let ht:∀hd,hd∈tJ x z->hd∈q\/aj r.heap<=hd:=λhd hh=>by obtain⟨he,hi,hd,hj,rfl⟩:=Mz.1 hh;let⟨hh,ho,_,_,hi⟩:=hc.d hd;let⟨ho,hd,_,hh⟩:=v.b he _ hi;cases hj▸hd;exact hh
 let ho:∀hd he,gx z y w t hd=Q he->(∃hh hi,bQ z y hh=hd/\t.a hh=Q hi/\he=eR (bQ z y) hi)\/(hd<y/\hd∉z/\w hd=Q he):=λhe hh hd=>by unfold gx at hd;by_cases hh:he∈z;rw[aC hh]at hd;let⟨hp,hi,hj⟩:=b3.1 hd;exact .inl ⟨z.idxOf he,hp,zj (by rw[e7<|JX hh,JW]),hi,hj.symm⟩;rw[ak hh]at hd;by_cases hi:he<y;rw[aC hi]at hd;exact .inr ⟨hi,hh,hd⟩;rw[ak hi]at hd;by_cases hh:Y z+(he-y)<t.f;rw[aC hh]at hd;let⟨hj,he,hi⟩:=b3.1 hd;exact .inl ⟨_,hj,by rw[hm _ L L];omega,he,hi.symm⟩;cases ak hh▸hd
 let hp:∀hd hh he,hd<y->hd∉z->w hd=Q hh->x hd=Q he->he.1<aj s.heap/\he.1∉tJ x z:=λhj hi hu he hr hd hh=>by refine⟨v.h hd hh,λhq=>?_⟩;let⟨hm,hv,he,hs,hi⟩:=Mz.1 hq;let⟨hw,hx,_,_,hq⟩:=hc.d he;have:=v.d hj hm _ _ hu hv hd hq hh hs hi.symm;subst this;exact hr he
 refine⟨hf,hl,hg,hk,⟨v.c.e ha.c ht,λhv hc=>?_,λhc hq hd=>?_,λhc hd hr hs he hi h1 h2 hh hm hj=>?_⟩⟩;refine⟨?_,?_⟩;show(if _ then _ else _)=_;rw[ak L,ak L];unfold gx;rw[ak (λhu=>by have:=hn hv hu;omega),ak L,ak L];obtain⟨hv,hw,rfl,hx,rfl⟩|⟨hz,h3,hu⟩:=ho hc hq hd;let⟨hn,h4,h0,hy⟩:=ha.b hv hw hx;refine⟨hn,hk hv hn h4,(To hf (bQ z y) hn _ hw).1<|h0.a hk,?_⟩;obtain hn|hn:=hy;exact ht _ hn;exact .inr<|df v.c.a hn;let⟨hn,ht,hw,hv⟩:=v.b hc hq hu;let⟨hx,hy⟩:=hp hc hq hn hz h3 hu ht;exact⟨hn,hl hc hn ht,by rw[ha.c.b hn.1 hx hy];exact hw.a hl,hv⟩;let hl:∀(hq:Nat)(ht:P)(hn:Nat×Nat),t.a hq=Q ht->hf (bQ z y hq)=Q hn->hb hq=Q hn/\(hn.1∈tJ x z\/aj s.heap<=hn.1):=λhb hv he ht hh=>by let⟨hq,hn,_,hu⟩:=ha.b hb hv ht;have:=hk hb hq hn;have:hf (bQ z y hb)=Q hq:=this;cases hh▸this;exact⟨hn,hu⟩
 obtain⟨hq,hv,rfl,hb,rfl⟩|⟨hk,hx,ht⟩:=ho hc hr h1<;>obtain⟨j,hw,rfl,hf,rfl⟩|⟨hn,hy,hu⟩:=ho hd hs h2;let⟨ho,_⟩:=hl hq hv he hb hh;let⟨hz,_⟩:=hl j hw hi hf hm;rw[ha.a hq j _ _ he hi hb hf ho hz hj];let⟨ha,ho⟩:=hl hq hv he hb hh;let ha:x hd=Q hi:=by rw[<-hg hd hn];exact hm
 let⟨hq,hb⟩:=hp hd hs hi hn hy hu ha;obtain ha|ha:=ho;exact aE (hj▸ha) hb;omega;let⟨ha,hb⟩:=hl j hw hi hf hm;let ha:x hc=Q he:=by rw[<-hg hc hk];exact hh
 let⟨hl,hf⟩:=hp hc hr he hk hx ht ha;obtain ha|ha:=hb;exact aE (hj▸ha) hf;omega;exact v.d hc hd hr hs he hi ht hu (by rw[<-hg hc hk];exact hh) (by rw[<-hg hd hn];exact hm) hj
end
def aiW{i k j v o g}(p:jH i (.b k j o) (.b v g)){b a e}(l:kW b a e o){n d h c}(m:cR n h c a e d){f}(q:bm c (eS (bQ b a) j)=Q f):CallsIn (bt Z) 0 i k (E f) d λx j=>∃t r,x=.returned t/\cI c r/\(∀s,s<a->r s=c s)/\aT r (dv (bQ b a) v)=Q t/\cR n h r (a+(g.f-Y b)) (gx b a e g) j:=by apply(p.2 d (tJ c b) (λe=>c<|bQ b a e) d f (m.m l) (by rwa[sL])).mono;rintro g i⟨u,f,rfl,a,d,c⟩;let⟨w,b,y,z,h⟩:=m.l l c a;exists u,w,J,b,y,by rw[<-qv];exact l6 z v u d
def ET:bz->bz|.a a=>.a (a+bi)|.b c b=>.b c (bE b)
section
variable{x:aD}{i:S Nat}{n:Nat}{p0:bv ah}{w r:ap}{u:W Nat}{y q:bs}{z o:Nat}{s:Nat->S P}{l:W Nat}{p3 p4:aA}{t p1 p5:au}{m:W bz}{p:aX}{f:ah}{p2:W ah}{k:bR->aX->ap->Prop}
def ah5(b:Y l<=bi)(a):bm (λc=>y<|bQ l z c) (bE a)=bm y a:=by rw[sL,BW b]
def Vk(a:Y l<=bi):∀m:W bz,g7 (λd=>y<|bQ l z d) (m.map ET)=g7 y m|[]=>rfl|b::f=>by(let c:jk (λe=>y<|bQ l z e) (ET b)=jk y b:=by obtain g|⟨i,h⟩:=b;simp only[jk,ET];rw[EN a];simp only[jk,ET];rw[ah5 a]);simp[g7];rw[c,Vk a f]
def iD(b:Nat->Nat)(t:au):au->Prop|[]=>True|a::c=>aO t a.1=Q (dv b a.2)/\iD b t c
def iD.a{b}:∀{p1},iD b t p1->∀f v,aO p1 f=Q v->aO t f=Q (dv b v)|[],_,i,v,h=>by cases h|(j,l)::k,e,g,v,c=>by rw[cT]at c;cases d:aw g j with|true=>cases d▸c;have:=b8 d;subst this;exact e.1|false=>rw[d]at c;exact e.2.a g v c
def b0.g(h:b0 n p t m y)(j:Y l<=bi)(i:iD (bQ l z) t p1):b0 n p p1 (m.map ET) (λs=>y<|bQ l z s):=by refine⟨⟨h.b.1,λk v q=>?_⟩,by rw[Vk j];exact h.d⟩;let⟨u,r,o⟩:=h.b.2 k _<|i.a k v q;exact⟨u,by rw[qv];exact r,o⟩
structure fq(q)(o)(y)(z:Nat):Prop where
 b:cI q y
 d:o<=z
 e:∀f,f<o->y f=q f
def fq.c(y)(z):fq y z y z:=⟨cI.c y,bd _,λ_ _=>rfl⟩
def fq.a{h i j k}(f:fq q o h j)(g:fq h j i k):fq q o i k:=⟨f.b.a g.b,df f.d g.d,λm l=>(g.e m<|mN l f.d).trans<|f.e m l⟩
def cR.nd{ha v}(q:cR w u y z s r)(j:kW l z s p3)(hd:b0 n p t m y)(hc:iD (bQ l z) t p1)(hb:dt x p1 p3 f=Q (.b ha))(he:vr p3.f ha=Q (v,p4)):∃hg hf ha,((aY p.eval f).run x r=.ok (.value hg) hf\/(hg=ee/\(aY p.eval f).run x r=.ok .skip hf))/\fq y z ha (z+(p4.f-Y l))/\aT ha (dv (bQ l z) v)=Q hg/\cR w u ha (z+(p4.f-Y l)) (gx l z s p4) hf:=let⟨ha,hk,hh,hi,hg,hf,hj⟩:=NJ (sH (q.m j) (hd.g j.c hc) hb) he;let⟨hb,hh,hc,hd,he⟩:=q.l j hj hg;⟨ha,hk,hb,hi,⟨hh,P5 _ _,hc⟩,by rw[<-qv];exact l6 hd v ha hf,he⟩
def dY(x:aD)(i:S Nat)(n:Nat)(p0:bv ah)(w:ap)(u:W Nat)(q:bs)(o:Nat)(k:bR->aX->ap->Prop)(p2:W ah)(t:au)(m:W bz)(z:Nat)(s:Nat->S P):Prop:=∀y r p,fq q o y z->cR w u y z s r->b0 n p t m y->fA (bt i) 0 x p0 k p2 p r
def rl(x:aD)(i:S Nat)(n:Nat)(w:ap)(u:W Nat)(q:bs)(o:Nat)(k:bR->aX->ap->Prop)(a:ek)(t:au)(m:W bz)(z:Nat)(s:Nat->S P):Prop:=∀y r p,fq q o y z->cR w u y z s r->b0 n p t m y->a.wpIn (bt i) 0 x k p r
def Tz(a:∀y r p,fq q o y z->cR w u y z s r->b0 n p t m y->k .normal p r):dY x i n p0 w u q o k [] t m z s:=a
def AF{b v}(h:bx t p0 f.guard=Q K)(d:kW l z s p3)(c:iD (bQ l z) t p1)(a:dt x p1 p3 f=Q (.b b))(e:vr p3.f b=Q (v,p4))(g:bP n t f.dst (dv (bQ l z) v)=Q p5)(j:dY x i n p0 w u q o k p2 p5 m (z+(p4.f-Y l)) (gx l z s p4)):dY x i n p0 w u q o k (f::p2) t m z s:=λy r p hf hc b=>by simp[fA,ft b h];existsλ_ _=>C;rw[fC _ _ _<|tH a];let⟨hh,hg,ha,he,h,hb,hd⟩:=hc.nd d b c a e;let c:=j ha hg (p.put f.dst hh) (hf.a h) hd<|gD (b.c h.b) hb g;obtain a|⟨rfl,a⟩:=he;rwa[a];rwa[a]
def afd(b:bx t p0 f.guard=Q N)(a:bP n t f.dst (.c [])=Q p5)(c:dY x i n p0 w u q o k p2 p5 m z s):dY x i n p0 w u q o k (f::p2) t m z s:=λy r p g e d=>by simp[fA,ft d b];exact⟨λ_ _=>C,c y r _ g e<|gD d J a⟩
def wE(x:aD)(a:cV)(c:W X)(z:Nat)(s:Nat->S P)(b:X->Nat->(Nat->S P)->Prop):Prop:=(∃g,x.funcs[a]?=Q g/\g.body.isNone=N)/\∀(w)(u)(y)(r)(h),cR w u y z s r->bm y c=Q h->CallsIn (bt Z) 0 x a (E h) r λj k=>∃v e f i d,b v e f/\j=.returned i/\fq y z d e/\aT d v=Q i/\cR w u d e f k
def wE.a{e d b c}(f:wE x e d z s b)(g:∀v i h,b v i h->c v i h):wE x e d z s c:=⟨f.1,λw u y r q o n=>(f.2 w u y r q o n).mono λ_ _⟨v,l,k,t,j,m,p⟩=>⟨v,l,k,t,j,g _ _ _ m,p⟩⟩
def V3{b a v}(c:jH x (.b b a p3) (.b v p4))(d:kW l z s p3):wE x b (eS (bQ l z) a) z s λp g f=>p=dv (bQ l z) v/\g=z+(p4.f-Y l)/\f=gx l z s p4:=⟨c.1,λw u y r a j h=>(aiW c d j h).mono λt b⟨q,e,i,n,m,o,k⟩=>⟨_,_,_,q,e,bq,i,⟨n,P5 _ _,m⟩,o,k⟩⟩
def ae5{j l hf c h a g b}(ha:fc x)(hb:bx t p0 f.guard=Q K)(e:f.op=.call ⟨.value j,l,hf⟩)(hc:al t j=Q (.f c h a))(hd:jQ t (aG l)=Q g)(d:wE x c (h++g++a) z s b)(he:∀v hh hg,b v hh hg->∃p5,bP n t f.dst v=Q p5/\dY x i n p0 w u q o k p2 p5 m hh hg):dY x i n p0 w u q o k (f::p2) t m z s:=λy r p hf g b=>by simp[fA,ft b hb];existsλ_ _=>C;rw[fC _ _ _ (λa c=>by cases e▸c)];let a:=b.a hc;let j:=tZ b hd;let⟨h,hc,l,hb,c⟩:=pc a;rw[B4 ha d.1 e c];existsλh=>(by cases h);refine uC (d.2 w u y r _ g<|jl (jl l j) hb) ?_;rintro c hb⟨v,g,e,ha,d,j,rfl,a,l,h⟩;let⟨p5,ha,c⟩:=he v g e j;exact c d hb _ (hf.a a) h<|gD (b.c a.b) l ha
variable{h g:ek}
def aeX(a:rl x i n w u q o (Exit.then (g.wpIn (bt i) 0 x k) k) h t m z s):rl x i n w u q o k (.seq h g) t m z s:=λy r p d c b=>xE<|a y r p d c b
def aeW{b}(a:dY x i n (E p2) w u q o k p2 t m z s):rl x i n w u q o k (.region b (E p2) N) t m z s:=λy r p e d c=>wpIn_region_lit<|a y r p e d c
def aeU{b a}(e:al t b=Q (R a))(c:a=K->rl x i n w u q o k h t m z s)(d:a=N->rl x i n w u q o k g t m z s):rl x i n w u q o k (.cond b h g) t m z s:=λy r p l j f=>wpIn_cond_split (eh<|f.a e) (λv=>c v y r p l j f)<|λa=>d a y r p l j f
def aeT{a}(b:rl x i n w u q o (pu a k) h t m z s):rl x i n w u q o k (.block a h) t m z s:=λy r p e d c=>wpIn_block<|b y r p e d c
def aeV{a}(c:iD (λl=>l) t a)(b:rl x i n w u q o k h a m z s):rl x i n w u q o k h t m z s:=λy r p g f d=>b y r p g f ⟨⟨d.b.1,λe v j=>by have:=c.a e v j;rw[EL]at this;exact d.b.2 e v this⟩,d.d⟩
def hP(q:bs)(o:Nat)(w:ap)(u:W Nat)(a:X->Nat->(Nat->S P)->Prop)(b:Ending)(c:ap):Prop:=∃v e f h d,a v e f/\b=.returned h/\fq q o d e/\aT d v=Q h/\cR w u d e f c
def aiZ{e a d b c}(g:x.funcs[e]?=Q a)(f:a.body=Q d)(j:cY (Y b) a.ntmps=K)(i:∀w u q,rl x Z a.ntmps w u q z (gE (bt Z) 0 x a<|hP q z w u c) d (kJ 0 b) [] z s):wE x e b z s c:=by refine⟨⟨a,g,by rw[f];rfl⟩,λw u y r c o m=>?_⟩;refine Fq g f C<|i w u y y r _ (fq.c y z) o ⟨⟨by simp[vS];omega,λt v k=>?_⟩,J⟩;let⟨_,k⟩:=Es b 0 t v k;let⟨h,l,n⟩:=sK m k;refine⟨h,n,?_⟩;rw[xS (by simpa using (bc.1 l).1)];simpa using l
def wN{b f a}(m:fc x)(d:kW l z s p3)(g:iD (bQ l z) t p1)(j:hX x p1 p3 (aG b.results)=Q f)(i:a (dv (bQ l z)<|dL f) z s)(k:fq q o y z)(e:cR w u y z s r)(c:b0 n p t [] y):kP (bt Z) 0 x b p.tmps (hP q o w u a) p.defers .returning r:=by
 let⟨h,g,f⟩:=BY (e.m d) (c.g d.c g).b j;let d:p.defers=[]:=by have:=c.d;simp only[g7,hJ]at this;exact this.symm
 rw[d];exact(show LeavesIn (bt Z) 0 x b p.tmps (hP q o w u a) [] .returning r from⟨h,f,_,z,s,h,y,i,J,k,by rwa[<-qv],e⟩)
end
def dU(a:Nat->S P)(b:Nat)(c:P):Nat->S P:=λd=>if d=b then Q c else a d
def ua(c)(a)(b):dU c a b a=Q b:=aC J
def lM(b){c a}(e)(d:a≠c):dU b c e a=b a:=ak d
def a6(a:P):P:=eR (λb=>b+bi) a
def cm(a:P):aA:=(⟨1,.a⟩:aA).c 0<|Q a
def hC(b)(a):(cm b).a a=if a=0 then Q b else Z:=by rw[cm,aA.b _ (by rw[bi];omega)];rfl
def Yn{b c}(d:Y b<=bi)(a):zi (bQ b c) (zi (λf=>f+bi) a)=a:=by induction a with|nil=>rfl|cons e i h=>have:dv (bQ b c) (dv (λg=>g+bi) e.2)=e.2:=iu d e.2;show(e.1,_)::_=e::i;rw[this];exact b9 _ h
def anw{b c}(d:Y b<=bi)(a):qH (bQ b c) (qH (λf=>f+bi) a)=a:=by induction a with|nil=>rfl|cons e i h=>have:dv (bQ b c) (dv (λg=>g+bi) e.2)=e.2:=iu d e.2;show(e.1,_)::_=e::i;rw[this];exact b9 _ h
def rR{c b}(a:Y c<=bi):∀d:P,eR (bQ c b) (a6 d)=d|.a f=>by have:=BW (y:=b) a f;simp only[eR];exact b9 _ this|.b n d q g=>by have:=BW (y:=b) a g;simp only[eR];exact b9 _ this|.c o=>by simp[a6,eR];rw[anw a]|.d m r=>rfl|.g c w k u y e g=>by simp[a6,eR];rw[Yn a]|.f=>rfl|.l s=>by simp[a6,eR];rw[EN a]|.k h i e=>by have:=BW (y:=b) a h;simp only[eR];exact b9 (λj=>P.k j i e) this|.i _=>rfl|.h t _ _=>by simp[a6,eR];rw[EN a]|.e p b x l v z f h=>by simp[a6,eR];rw[Yn a]
section
variable{r:aD}{l:S Nat}{p:Nat}{n:bv ah}{s u b:ap}{q:W Nat}{x k:bs}{z i:Nat}{y:Nat->S P}{m:aA}{t a h:au}{g:W bz}{c:aX}{w:ah}{f:W ah}{d:bR->aX->ap->Prop}
def cR.e(j:cR s q x z y u)(p:Below (aj u.heap) u b):cR s q x z y b:=⟨j.c.e (n:=[]) (hK.d p _) az,j.a,λha hc r=>by let⟨hb,t,w,v⟩:=j.b ha hc r;exact⟨hb,t,p.block _ (j.h r t)▸w,v⟩,j.d⟩
def IF(u)(x):aZ u [] x dT u:=⟨hK.g _ _,bd _,λe d=>⟨λc=>aE c<|Nat.not_lt.2 d,J⟩,(λf k a=>by cases a),(λg j l m h i b=>by cases b)⟩
def afe{v}(e:bx t n w.guard=Q K)(a:eb r t dT w=Q v)(b:bP p t w.dst v=Q h)(j:dY r l p n s q k i d f h g z y):dY r l p n s q k i d (w::f) t g z y:=λx u c hd hb o=>by simp[fA,ft o e];existsλ_ _=>C;rw[eb]at a;split at a;rename_i m ha e;cases a;rw[fC _ _ _<|tH e];let⟨hg,hf,hc,ha,he⟩:=sH (IF u x) o e;let e:=j x hf (c.put w.dst hg) hd (hb.e he.c.below)<|gD o ha b;obtain b|⟨rfl,b⟩:=hc;rwa[b];rwa[b];cases a
def cR.o(r:cR s q x z y u){p t}(ha:e1 (cX x z p) p t u.heap[p.1]?)(w:aj s.heap<=p.1)(v:∀hb he hc,y hb=Q he->x hb=Q hc->hc.1≠p.1):cR s q (cX x z p) (z+1) (dU y z t) u:=by
 have hl:=cI.b (r.a z<|bd _).1 p;refine⟨r.c,λhb hf=>⟨?_,?_⟩,λhb he hf=>?_,λhb j he hi hc hh hf hs hg hu hd=>?_⟩;unfold cX;rw[ak L];exact(r.a hb L).1;rw[lM _ _ L];exact(r.a hb L).2;by_cases hd:hb=z;subst hd;rw[ua]at hf;cases hf;exact⟨p,jS ..,ha,.inr w⟩;rw[lM _ _ hd]at hf;let⟨hc,hg,ht,hr⟩:=r.b hb he hf;exact⟨hc,hl hb hc hg,ht.a hl,hr⟩;have ho:∀(hb)(he)(hc),dU y z t hb=Q he->cX x z p hb=Q hc->(hb=z/\hc=p)\/(hb≠z/\y hb=Q he/\x hb=Q hc):=λhb he hc hf hg=>by by_cases hd:hb=z;subst hd;rw[jS]at hg;cases hg;exact .inl ⟨J,J⟩;rw[lM _ _ hd]at hf;unfold cX at hg;rw[ak hd]at hg;exact .inr ⟨hd,hf,hg⟩
 obtain⟨rfl,rfl⟩|⟨hv,hj,hk⟩:=ho hb he hc hf hg<;>obtain⟨hp,rfl⟩|⟨hw,hm,hn⟩:=ho j hi hh hs hu;exact hp.symm;exact aE hd.symm<|v j hi hh hm hn;exact aE hd<|v hb he hc hj hk;exact r.d hb j he hi hc hh hj hm hk hn hd
def afc{v b}(j:bx t n w.guard=Q K)(a:qt r t dT z w=Q (v,b))(e:bP p t w.dst v=Q h)(o:dY r l p n s q k i d f h g (z+1) (dU y z b)):dY r l p n s q k i d (w::f) t g z y:=λx u c hj b ha=>by simp[fA,ft ha j];existsλ_ _=>C;rw[qt]at a;split at a;rename_i m hc hb j;cases a;rw[fC _ _ _<|tH j];let⟨hc,hl,hb,hi,hk,hf,he,_⟩:=sH (IF u x) ha j;let j:=(b.a z<|bd _).1;let⟨hc,hd⟩:=hf z j;let hf:=he.elim nofun id;rw[hi];exact o _ hl _ (hj.a ⟨cI.b j hb,mM _,λhc b=>by rw[cX,ak L]⟩) ((b.e hk.c.below).o hc (df b.c.a hf) (λhn hp ho hg hh hm=>by have:=b.h hg hh;omega))<|gD (ha.c<|cI.b j hb) hd e;cases a
def rF{a b}(c:y a=Q b):kW [a] z y (cm<|a6 b):=by refine⟨J,by rw[bi];simp,az,λe h d=>?_,λe g d=>?_⟩;rw[hC]at d;by_cases f:e=0;subst f;cases d;exact⟨a,J,by rwa[rR (by rw[bi];simp)]⟩;rw[ak f]at d;cases d;match e,d with|0,_=>exact⟨a6 b,by rfl⟩
def Mp{a b}(d:cR s q x z y u)(f:a<z)(e:m.f=1)(c:m.a 0=Q (a6 b)):gx [a] z y m=dU y a b:=by funext g;rw[gx,dU];by_cases h:g=a;subst h;rw[aC az,aC J,show vK g [g]=0 by simp,c];show Q (eR _<|a6 b)=_;rw[rR (by rw[bi];simp)];rw[ak (by simp[h]),ak h];by_cases i:g<z;rw[aC i];rw[ak i,e,ak az,(d.a g L).2]
def AE{b v ha j}(hf:bx t n w.guard=Q K)(o:y b=Q v)(hd:iD (bQ [b] z) t a)(hb:dt r a (cm<|a6 v) w=Q (.b (m,Z,j)))(e:m.f=1)(hc:m.a 0=Q (a6 ha))(he:bP p t w.dst (dv (bQ [b] z)<|j 0)=Q h)(hg:dY r l p n s q k i d f h g z (dU y b ha)):dY r l p n s q k i d (w::f) t g z y:=λx u c v b j=>by refine AF hf (rF o) hd hb (p4:=m) ?_ he ?_ x u c v b j;show(bif cY 1 m.f then _ else _)=_;rw[e];rfl;rwa[Mp b (b.n o) e hc,e]
def B9{a b}(c:y a=Q b):dU y a b=y:=by funext e;rw[dU];by_cases d:e=a;rw[aC d,d,c];rw[ak d]
def Tx{j b e a:Nat}{c v}(x:bx t n w.guard=Q K)(u:w.op=.load e (.tmp a))(ha:aO t a=Q (.a j b))(m:y j=Q c)(o:hB r (cm<|a6 c) e (Q<|.a 0 b)=Q (dd v))(hc:bP p t w.dst v=Q h)(hb:dY r l p n s q k i d f h g z y):dY r l p n s q k i d (w::f) t g z y:=by refine AE (a:=[(a,.a 0 b)]) (j:=λ_=>dd v) x m ⟨by rw[ha];rfl,C⟩ ?_ J (by rw[hC];rfl) (by rwa[iu (by rw[bi];simp)])<|B9 m▸hb;rw[dt,u];show dh.a ((hB r (cm<|a6 c) e<|aO [(a,.a 0 b)] a).bind<|ec _)=_;rw[cT,cF];simp[b4];rw[o];rfl
end
def fg(a b:P):aA:=((aA.mk 2 .a).c 0<|Q a).c 1<|Q b
def pO(b c)(a):(fg b c).a a=if a=1 then Q c else if a=0 then Q b else Z:=by rw[fg,aA.b _ (by rw[bi];omega),aA.b _ (by rw[bi];omega)];rfl
section
variable{x:aD}{r:S Nat}{t:Nat}{s:bv ah}{q h:ap}{p:W Nat}{g o:bs}{z n:Nat}{y:Nat->S P}{u m:au}{l:W bz}{f:aX}{w:ah}{k:W ah}{i:bR->aX->ap->Prop}
def Eg{a b c d}(f:y a=Q c)(g:y b=Q d)(e:a≠b):kW [a,b] z y (fg (a6 c)<|a6 d):=by refine⟨J,by rw[bi];simp,by simp[e],λi m h=>?_,λi l h=>?_⟩;rw[pO]at h;by_cases j:i=1;subst j;cases h;exact⟨b,J,by rw[rR (by rw[bi];simp)];exact g⟩;rw[ak j]at h;by_cases k:i=0;subst k;cases h;exact⟨a,J,by rw[rR (by rw[bi];simp)];exact f⟩;rw[ak k]at h;cases h;match i,h with|0,_=>exact⟨a6 c,by rfl⟩|1,_=>exact⟨a6 d,by rfl⟩
def pH(y:Nat->S P)(a z:Nat)(b:P):Nat->S P:=λc=>if c=z then Q b else if c=a then Z else y c
def Ca(a):Y (bE a)=Y a:=by rw[bE];induction a with|nil=>rfl|cons d c b=>simp[eS,b]
def OS(a):∀b,bE (a.take b)=(bE a).take b:=by unfold bE;induction a with|nil=>intro e;simp[eS]|cons h g c=>intro d;obtain _|f:=d;simp[eS];simp[eS,c]
def aof(a):∀b,bE (a.drop b)=(bE a).drop b:=by unfold bE;induction a with|nil=>intro e;simp[eS]|cons h g c=>intro d;obtain _|f:=d;simp[eS];simp[eS,c]
def YQ(a b):bE (a++b)=bE a++bE b:=by unfold bE;induction a with|nil=>rfl|cons e d c=>simp[eS,c]
def an0(v):aB (dd v)=aB v:=by cases v<;>rfl
def G5(a):(bE a).all aB=a.all aB:=by rw[bE];induction a with|nil=>rfl|cons b e d=>simp[eS,d];rw[show aB (dv (λc=>c+bi) b)=aB b from an0 b]
def mv(b)(w a):aR (bE b) w a=bE (aR b w a):=by unfold aR;rw[OS,aof]
def ae3{hh c hf hg hc he d hb hd ha b j:Nat}{a:TypeInfo}{v e:W X}(hs:bx u s w.guard=Q K)(hp:w.op=.call ⟨.builtin .append,#[.tmp hf,.tmp hg],#[hh,hh]⟩)(hr:x.underlying hh=Q (.slice c))(hm:x.info? c=Q a)(hw:pT a=K)(ht:aO u hf=Q (.d hc 0 d 0))(hv:aO u hg=Q (.d he ha b j))(hu:hf≠hg)(hj:y hc=Q (.b c a.size hb v))(hi:y he=Q (.b c a.size hd e))(hk:hc≠he)(hn:d<=hb)(hy:Y (aR e ha<|b*a.size)=b*a.size)(hz:(aR e ha<|b*a.size).all aB=K)(hl:(d+b)*(a.bytes+1)<=100000000000)(ho:0<b)(hq:bP t u w.dst (.d z 0 (d+b) 0)=Q m)(hx:dY x r t s q p o n i k m l (z+1) (pH y hc z<|.b c a.size (d+b)<|v.take (d*a.size)++aR e ha (b*a.size))):dY x r t s q p o n i (w::k) u l z y:=by
 intro g h f h4 hy hz;let h0:=hy.n hj;let h0:=hy.n hi;let h0:dt x [(hf,.d 0 0 d 0),(hg,.d 1 ha b j)] (fg (a6<|.b c a.size hb v)<|a6<|.b c a.size hd e) w=Q (.b ((fg (a6<|.b c a.size hb v)<|a6<|.b c a.size hd e).c 0 Z,Q<|.b c a.size (d+b)<|(bE v).take (d*a.size)++aR (bE e) ha (b*a.size),λh1=>.d h1 0 (d+b) 0)):=by rw[dt,hp];simp[tG];(let h6:al [(hf,X.d 0 0 d 0),(hg,X.d 1 ha b j)] (.tmp hf)=Q (.d 0 0 d 0):=by simp[al];rw[cT,cF];rfl);(let h7:al [(hf,X.d 0 0 d 0),(hg,X.d 1 ha b j)] (.tmp hg)=Q (.d 1 ha b j):=by simp[al];rw[cT,lJ<|λc=>hu c.symm];simp[dE];rw[cT,cF];rfl);(let hp:kH (fg (a6<|.b c a.size hb v)<|a6<|.b c a.size hd e) 0=Q (c,a.size,hb,bE v):=by rw[kH,pO];rfl);(let hu:((fg (a6<|.b c a.size hb v)<|a6<|.b c a.size hd e).a 1).bind fT=Q (bE e):=by rw[pO];rfl);let h2:cc 0 b=K:=gU ho;(let ho:Y (aR (bE e) ha<|b*a.size)=b*a.size:=by rwa[mv,Ca]);(let h3:(aR (bE e) ha<|b*a.size).all aB=K:=by rwa[mv,G5]);(let hl:qx x (fg (a6<|.b c a.size hb v)<|a6<|.b c a.size hd e) hh hh (.d 0 0 d 0) (.d 1 ha b j)=Q ((fg (a6<|.b c a.size hb v)<|a6<|.b c a.size hd e).c 0 Z,Q<|.b c a.size (d+b)<|(bE v).take (d*a.size)++aR (bE e) ha (b*a.size),λh5=>.d h5 0 (d+b) 0):=by rw[qx,hr];simp;rw[hm];simp[hw,yC,hp,gU hn,DY,hu,sI,ho,h3,gU hl,h2]);simp[tF,h6,h7,hl,dh.a]
 refine AF hs (Eg hj hi hk) (p1:=[(hf,.d 0 0 d 0),(hg,.d 1 ha b j)]) ⟨by rw[ht];rfl,by rw[hv];rfl,C⟩ h0 (p4:=_) J hq ?_ g h f h4 hy hz;let hf:gx [hc,he] z y (((fg (a6<|.b c a.size hb v)<|a6<|.b c a.size hd e).c 0 Z).d 1|>.c 2 (Q<|.b c a.size (d+b)<|(bE v).take (d*a.size)++aR (bE e) ha (b*a.size)))=pH y hc z (.b c a.size (d+b)<|v.take (d*a.size)++aR e ha (b*a.size)):=by(let hh:∀hg,((((fg (a6<|.b c a.size hb v)<|a6<|.b c a.size hd e).c 0 Z).d 1).c 2<|Q<|P.b c a.size (d+b)<|(bE v).take (d*a.size)++aR (bE e) ha (b*a.size)).a hg=if hg=2 then Q (P.b c a.size (d+b)<|(bE v).take (d*a.size)++aR (bE e) ha (b*a.size))else if hg=0 then Z else(fg (a6<|.b c a.size hb v)<|a6<|.b c a.size hd e).a hg:=by intro hg;rw[aA.b _ (by rw[bi];omega),aA.e,aA.b _ (by rw[bi];omega)]);let hg:((((fg (a6<|.b c a.size hb v)<|a6<|.b c a.size hd e).c 0 Z).d 1).c 2<|Q<|P.b c a.size (d+b)<|(bE v).take (d*a.size)++aR (bE e) ha (b*a.size)).f=3:=rfl;funext hb;rw[gx,pH,hg];by_cases hd:hb=hc;subst hd;rw[aC az,show vK hb [hb,he]=0 by simp,hh,ak L,aC J,ak L,aC J];rfl;by_cases hf:hb=he;subst hf;rw[aC az,show vK hb [hc,hb]=1 by simp[asK,beq_false_of_ne hk],hh,ak L,ak L,pO,aC J,ak L,ak hd,hi];show Q (eR _<|a6 _)=_;rw[rR (by rw[bi];simp)];rw[ak (by simp[hd,hf])];by_cases hg:hb<z;rw[aC hg,ak L,ak hd];rw[ak hg];by_cases hg:hb=z;subst hg;rw[aC (show Y [hc,he]+(hb-hb)<3 by simp),show Y [hc,he]+(hb-hb)=2 by simp,hh,aC J,aC J];have:=rR (c:=[hc,he]) (b:=hb) (by rw[bi];simp)<|.b c a.size (d+b)<|v.take (d*a.size)++aR e ha (b*a.size);rw[<-this];simp[dD,a6,eR];rw[show eS (λa=>a+bi) (v.take (d*a.size)++aR e ha (b*a.size))=(bE v).take (d*a.size)++aR (bE e) ha (b*a.size)by show bE _=_;rw[YQ,OS,mv]];rw[ak (show¬Y [hc,he]+(hb-z)<3 by simp;omega),ak hg,ak hd,(hy.a hb L).2]
 have:=hx;rwa[<-hf]at this
def fH(x:aD)(a:Nat):S (Nat×Nat):=match x.info? a with|Q b=>bif pT b then Q (b.size,b.bytes)else Z|Z=>Z
def ei(x:aD)(a:Nat):S Nat:=match x.underlying a with|Q (.slice b)=>Q b|_=>Z
def ae2{hb c b he hc hd f ha e hh hv v a j:Nat}{hf g}(d:fH x c=Q (b,he))(h:ei x hb=Q c)(hs:bx u s w.guard=Q K)(hp:w.op=.call ⟨.builtin .append,#[.tmp hc,.tmp hd],#[hb,hb]⟩)(ht:aO u hc=Q (.d f 0 e 0))(hu:aO u hd=Q (.d ha v a j))(hg:aw hc hd=N)(hi:y f=Q (.b c b hh hf))(hj:y ha=Q (.b c b hv g))(ho:f≠ha)(hl:e<=hh)(hm:Y (aR g v<|a*b)=a*b)(hq:(aR g v<|a*b).all aB=K)(hk:(e+a)*(he+1)<=100000000000)(hn:0<a)(hr:bP t u w.dst (.d z 0 (e+a) 0)=Q m)(hw:dY x r t s q p o n i k m l (z+1) (pH y f z<|.b c b (e+a)<|hf.take (e*b)++aR g v (a*b))):dY x r t s q p o n i (w::k) u l z y:=by
 rw[fH]at d;split at d;rename_i f b;cases a:pT f with|false=>cases a▸d|true=>cases a▸d;rw[ei]at h;split at h;rename_i g e;cases h;exact ae3 hs hp e b a ht hu (λc=>by rw[c,cF]at hg;cases hg) hi hj ho hl hm hq hk hn hr hw;cases h
 cases d
def Uv{a b z e}(c:a≠z)(d:a≠b):pH y b z e a=y a:=by rw[pH,ak c,ak d]
end
def xf{a}:∀(d:W a)(b),jN d b=d[b]?|[],f=>by rw[XD];simp|h::g,0=>by rfl|i::e,c+1=>by show jN e c=_;rw[xf e c];simp
def OR(a):∀b:Nat,(bE a)[b]?=(a[b]?).map dd:=by rw[bE];induction a with|nil=>intro f;simp[eS]|cons h g e=>intro c;obtain _|d:=c;rfl;simpa[eS]using e d
def WG{a b}(c:b<=a)(d:a<4611686018427387904):vo .i64 (.ofNat a) (.ofNat b)=.ofNat (a-b):=by show(bif cY b a&&cc a 128 then fW (Nat.sub a b)else gF.wrap (fW a-fW b))=_;cases e:cY b a&&cc a 128;show gF.wrap ((a)-(b))=((a-b:Nat));rw[sk _ L];omega;rfl
def ajj{a b}(c:a+b<4611686018427387904):wV .i64 (.ofNat a) (.ofNat b)=.ofNat (a+b):=by show(bif cc (zD a b) 128 then fW (zD a b)else gF.wrap (fW a+fW b))=_;cases d:cc (zD a b) 128;show gF.wrap ((a)+(b))=((a+b:Nat));rw[sk _ L];omega;rfl
section
variable{y:aD}{s:S Nat}{w:Nat}{u:bv ah}{r:ap}{q:W Nat}{p:bs}{o n:Nat}{t:Nat->S P}{z m:au}{l:W bz}{x:ah}{k:W ah}{i:bR->aX->ap->Prop}
def xd{j k:Nat}{c d a b}(g:x.op=.binOp .sub j c d k)(h:al z c=Q (B a))(i:al z d=Q (B b))(e:b<=a)(f:a<4611686018427387904):eb y z dT x=Q (B<|a-b):=by rw[eb,dt,g];simp only[h,i,qy,sO,WG e f,dh.a];rfl
def gP{i j:Nat}{c d a b}(f:x.op=.binOp .add i c d j)(g:al z c=Q (B a))(h:al z d=Q (B b))(e:a+b<4611686018427387904):eb y z dT x=Q (B<|a+b):=by rw[eb,dt,f];simp only[g,h,qy,sO,ajj e,dh.a];rfl
def fi{f e c d b j a:Nat}{g h}(k:x.op=.indexAddr f g h)(m:al z g=Q (.d c d b j))(n:iW (al z h)=Q a)(l:ld y f=Q e)(i:a<b):eb y z dT x=Q (.a c<|d+a*e):=by rw[eb,dt,k];have:cc a b=K:=gU i;simp[m,n,Ee,l,this,ec,dh.a]
def fS{f b e c d:Nat}{a v}(h:sV y f=Q N)(g:a[d]?=Q v):hB y (cm<|a6<|.b b e c a) f (Q<|.a 0 d)=Q (dd v):=by
 let i:((cm<|a6<|.b b e c a).a 0).bind fT=Q (bE a):=by rfl
 simp[hB,i,tP,h];rw[xf,OR,g];rfl
def ae8{hf h g f e hb d b j c a:Nat}{v hc}(hm:bx z u x.guard=Q K)(hj:x.op=.slice hf (.tmp f) (Q<|.tmp e) Z Z)(ha:ei y hf=Q h)(hl:qI y h g=K)(hn:aO z f=Q (.d hb d b j))(hi:aO z e=Q (.k<|.int v<|.ofNat a))(ho:aw e f=N)(he:t hb=Q (.b h g c hc))(hg:a<=b)(hh:j+b<=c)(hd:a=0\/j+a<c)(hk:bP w z x.dst (.d hb (d+a*g) (b-a)<|j+a)=Q m)(hp:dY y s w u r q p n i k m l o t):dY y s w u r q p n i (x::k) z l o t:=by
 refine AE (a:=[(f,.d 0 d b j),(e,.k<|.int v<|.ofNat a)]) (j:=λ_=>.d 0 (d+a*g) (b-a)<|j+a) hm he ⟨by rw[hn];rfl,by rw[hi];rfl,C⟩ ?_ J (by rw[hC];rfl) hk<|B9 he▸hp;rw[dt,hj];let hb:al [(f,X.d 0 d b j),(e,X.k<|.int v<|.ofNat a)] (.tmp f)=Q (.d 0 d b j):=by simp[al];rw[cT,cF];rfl
 let he:al [(f,X.d 0 d b j),(e,X.k<|.int v<|.ofNat a)] (.tmp e)=Q (.k<|.int v<|.ofNat a):=by simp[al];rw[cT,ho];simp[dE];rw[cT,cF];rfl
 let b:kH (cm<|a6<|.b h g c hc) 0=Q (h,g,c,bE hc):=by rw[kH,hC];rfl
 let f:(aw a 0||cc (j+a) c)=K:=by obtain rfl|hd:=hd;rfl;rw[show cc (j+a) c=K from gU hd,Bool.or_true]
 rw[ei]at ha;split at ha;rename_i c a;cases ha;simp only[hb,he,Bf,yE,iW,Ef,a,b,cF,hl,gU hg,gU hh,f,me,b4,ec,dh.a];cases ha
def afg{he e v d c hb b h j f a:Nat}{g hc}(hk:bx z u x.guard=Q K)(hh:x.op=.slice he (.tmp d) Z (Q<|.tmp c) Z)(ha:ei y he=Q e)(hj:qI y e v=K)(hl:aO z d=Q (.d hb b h j))(hg:aO z c=Q (.k<|.int g<|.ofNat a))(hm:aw c d=N)(hd:t hb=Q (.b e v f hc))(hf:j+a<=f)(hi:bP w z x.dst (.d hb b a j)=Q m)(hn:dY y s w u r q p n i k m l o t):dY y s w u r q p n i (x::k) z l o t:=by
 refine AE (a:=[(d,.d 0 b h j),(c,.k<|.int g<|.ofNat a)]) (j:=λ_=>.d 0 (b+0*v) (a-0)<|j+0) hk hd ⟨by rw[hl];rfl,by rw[hg];rfl,C⟩ ?_ J (by rw[hC];rfl) (by simpa[dv,bQ]using hi)<|B9 hd▸hn;rw[dt,hh];let hb:al [(d,X.d 0 b h j),(c,X.k<|.int g<|.ofNat a)] (.tmp d)=Q (.d 0 b h j):=by simp[al];rw[cT,cF];rfl
 let hd:al [(d,X.d 0 b h j),(c,X.k<|.int g<|.ofNat a)] (.tmp c)=Q (.k<|.int g<|.ofNat a):=by simp[al];rw[cT,hm];simp[dE];rw[cT,cF];rfl
 let b:kH (cm<|a6<|.b e v f hc) 0=Q (e,v,f,bE hc):=by rw[kH,hC];rfl
 let c:cY 0 a=K:=gU<|eL _;let e:(aw 0 0||cc (j+0) f)=K:=rfl;rw[ei]at ha;split at ha;rename_i f a;cases ha;simp only[hb,hd,Bf,yE,iW,Ef,a,b,cF,hj,gU hf,dh.a];rfl;cases ha
end
def VT(a):∀b:W (ac×X),cp a (qH (λe=>e+bi) b)=(cp a b).map dd|[]=>rfl|(c,v)::d=>by show(bif aM a c then Q (dd v)else cp a (qH _ d))=_;rw[VT a d];simp[cp];cases aM a c<;>rfl
def Ye(a)(v):∀d:W (ac×X),iZ a (dd v) (qH (λe=>e+bi) d)=qH (λf=>f+bi) (iZ a v d)|[]=>rfl|(b,g)::c=>by show(bif aM a b then(a,dd v)::qH _ c else(b,dd g)::iZ a (dd v) (qH _ c))=_;rw[Ye a v c];simp[iZ];cases aM a b<;>rfl
section
variable{x:aD}{r:S Nat}{s:Nat}{t:bv ah}{q g:ap}{p:W Nat}{f o:bs}{y n:Nat}{u:Nat->S P}{z i h:au}{m:W bz}{e:aX}{w:ah}{l:W ah}{k:bR->aX->ap->Prop}
def afa{he hb d f:Nat}{g e c a b}(hi:bx z t w.guard=Q K)(hf:w.op=.lookup he (.tmp d) g e)(hh:ud x he=Q hb)(hk:kL x hb=Q a)(hd:dd (jO a)=jO a)(j:aO z d=Q (.g f))(ha:al z g=Q (O c))(hj:∀hm,g=.tmp hm->aw hm d=N)(hc:u f=Q (.c b))(hg:bP s z w.dst (yY e (jO a)<|cp c b)=Q h)(hl:dY x r s t q p o n k l h m y u):dY x r s t q p o n k (w::l) z m y u:=by
 let he:dv (bQ [f] y) (yY e (jO a)<|(cp c b).map dd)=yY e (jO a) (cp c b):=by(let hb:dv (bQ [f] y) (jO a)=jO a:=by rw[<-hd,iu (by rw[bi];simp),hd]);obtain _|v:=cp c b;cases e;exact hb;show X.c [dv _<|jO a,_]=_;rw[hb];rfl;let hb:dv (bQ [f] y) (dd v)=v:=iu (by rw[bi];simp) v;cases e;exact hb;show X.c [dv _<|dd v,_]=_;rw[hb];rfl
 let hb:∀i:au,iD (bQ [f] y) z i->al i (.tmp d)=Q (.g 0)->al i g=Q (O c)->dY x r s t q p o n k (w::l) z m y u:=λi f hd hm=>by refine AE (j:=λ_=>yY e (jO a)<|(cp c b).map dd) hi hc f ?_ J (by rw[hC];rfl) (he▸hg)<|B9 hc▸hl;rw[dt,hf];(let e:(cm<|a6<|.c b).a 0=Q (.c<|qH (λa=>a+bi) b):=by rfl);simp[hd,hm,HK,hh,e,hk,ec,VT,dh.a]
 obtain a|b|g|c:=g;refine hb [(d,.g 0),(a,O c)] ⟨by rw[j];rfl,by rw[show aO z a=_ from ha];rfl,C⟩ ?_ ?_;simp only[al];rw[cT,cF];rfl;simp only[al];rw[cT,hj a J];simp only[dE];rw[cT,cF];rfl;exact hb [(d,.g 0)] ⟨by rw[j];rfl,C⟩ (by simp only[al];rw[cT,cF];rfl) ha;exact hb [(d,.g 0)] ⟨by rw[j];rfl,C⟩ (by simp only[al];rw[cT,cF];rfl) ha;exact hb [(d,.g 0)] ⟨by rw[j];rfl,C⟩ (by simp only[al];rw[cT,cF];rfl) ha
def afb{g h a b c f:Nat}{d v e}(hf:bx z t w.guard=Q K)(hd:w.op=.mapUpdate g (.tmp a) (.tmp b) (.tmp c))(hc:w.dst=Z)(he:ud x g=Q h)(hg:aO z a=Q (.g f))(hh:aO z b=Q (O d))(hi:aO z c=Q v)(i:aw b a=N)(j:aw c a=N)(ha:aw c b=N)(hb:u f=Q (.c e))(hj:dY x r s t q p o n k l z m y (dU u f<|.c<|iZ d v e)):dY x r s t q p o n k (w::l) z m y u:=by
 refine AE (a:=[(a,.g 0),(b,O d),(c,dd v)]) (m:=(cm<|a6<|.c e).c 0<|Q<|.c<|iZ d (dd v)<|qH (λf=>f+bi) e) (j:=λ_=>.c []) hf hb ⟨by rw[hg];rfl,by rw[hh];rfl,by rw[hi,iu (by rw[bi];simp)],C⟩ ?_ J ?_ (by rw[hc];rfl) hj;rw[dt,hd];let g:al [(a,X.g 0),(b,O d),(c,dd v)] (.tmp a)=Q (.g 0):=by simp[al];rw[cT,cF];rfl
 let h:al [(a,X.g 0),(b,O d),(c,dd v)] (.tmp b)=Q (O d):=by simp[al];rw[cT,i];simp[dE];rw[cT,cF];rfl
 let i:al [(a,X.g 0),(b,O d),(c,dd v)] (.tmp c)=Q (dd v):=by simp[al];rw[cT,j];simp[dE];rw[cT,ha];simp[dE];rw[cT,cF];rfl
 let a:(cm<|a6<|.c e).a 0=Q (.c<|qH (λb=>b+bi) e):=by rfl
 simp[g,h,i,HN,he,a,dh.a];rw[aA.b _ (by rw[bi];omega),aC J,Ye];rfl
def aeY{he d hd hh ha hb v i c a j:Nat}{b:W X}(hc:fH x d=Q (hd,hh))(hf:ei x he=Q d)(ho:bx z t w.guard=Q K)(hl:w.op=.call ⟨.builtin .append,#[.tmp ha,.tmp hb],#[he,he]⟩)(hp:aO z ha=Q (ab))(hr:aO z hb=Q (.d v c a j))(hq:aw hb ha=N)(hg:u v=Q (.b d hd i b))(hj:Y (aR b c<|a*hd)=a*hd)(hm:(aR b c<|a*hd).all aB=K)(hi:a*(hh+1)<=100000000000)(hk:0<a)(hn:bP s z w.dst (.d y 0 a 0)=Q h)(hs:dY x r s t q p o n k l h m (y+1) (dU u y<|.b d hd a<|aR b c<|a*hd)):dY x r s t q p o n k (w::l) z m y u:=by
 intro f g e ke hw h6;have kj:=hw.n hg;rw[fH]at hc;split at hc;rename_i ht h9;cases hx:pT ht with|false=>cases hx▸hc|true=>cases hx▸hc;rw[ei]at hf;split at hf;rename_i ki kf;cases hf;have kb:cc 0 a=K:=gU hk;(have ka:Y (aR (bE b) c<|a*ht.size)=a*ht.size:=by rw[mv,Ca];exact hj);(have kd:(aR (bE b) c<|a*ht.size).all aB=K:=by rw[mv,G5];exact hm);(have h5:((cm<|a6<|.b d ht.size i b).a 0).bind fT=Q (bE b):=by rw[hC];rfl);(have kg:al [(ha,ab),(hb,X.d 0 c a j)] (.tmp ha)=Q (ab):=by simp[al];rw[cT,cF];rfl);(have kh:al [(ha,ab),(hb,X.d 0 c a j)] (.tmp hb)=Q (.d 0 c a j):=by simp[al];rw[cT,hq];simp[dE];rw[cT,cF];rfl);(have h7:dt x [(ha,ab),(hb,.d 0 c a j)] (cm<|a6<|.b d ht.size i b) w=Q (.b (cm<|a6<|.b d ht.size i b,Q<|.b d ht.size a<|aR (bE b) c<|a*ht.size,λhy=>.d hy 0 a 0)):=by rw[dt,hl];simp[tG];(have h4:qx x (cm<|a6<|.b d ht.size i b) he he (ab) (.d 0 c a j)=Q (cm<|a6<|.b d ht.size i b,Q<|.b d ht.size a<|aR (bE b) c<|a*ht.size,λhy=>.d hy 0 a 0):=by rw[qx,kf];simp;rw[h9];simp[hx,yC,G7,h5,sI,ka,kd,gU hi,kb,me]);simp[tF,kg,kh,h4,dh.a]);refine AF ho (rF hg) (p1:=[(ha,ab),(hb,.d 0 c a j)]) ⟨by rw[hp];rfl,by rw[hr];rfl,C⟩ h7 J hn ?_ f g e ke hw h6;have kc:(((cm<|a6<|.b d ht.size i b).d 1).c 1<|Q<|P.b d ht.size a<|aR (bE b) c<|a*ht.size).f=2:=rfl;(have h1:∀hv,(((cm<|a6<|.b d ht.size i b).d 1).c 1<|Q<|P.b d ht.size a<|aR (bE b) c<|a*ht.size).a hv=if hv=1 then Q (P.b d ht.size a<|aR (bE b) c<|a*ht.size)else(cm<|a6<|.b d ht.size i b).a hv:=by intro hv;rw[aA.b _ (by rw[bi];omega),aA.e]);(have h3:gx [v] y u (((cm<|a6<|.b d ht.size i b).d 1).c 1<|Q<|.b d ht.size a<|aR (bE b) c<|a*ht.size)=dU u y (.b d ht.size a<|aR b c<|a*ht.size):=by funext hu;rw[gx,dU,kc];by_cases hz:hu=v;subst hz;rw[aC az,show vK hu [hu]=0 by simp,h1,ak L,hC,aC J,ak L,hg];show Q (eR _<|a6 _)=_;rw[rR (by rw[bi];simp)];rw[ak (by simp[hz])];by_cases h2:hu<y;rw[aC h2,ak L];rw[ak h2];by_cases h0:hu=y;subst h0;rw[aC (show Y [v]+(hu-hu)<2 by simp),show Y [v]+(hu-hu)=1 by simp,h1,aC J,aC J];have:=rR (c:=[v]) (b:=hu) (by rw[bi];simp)<|.b d ht.size a<|aR b c<|a*ht.size;rw[<-this];simp[dD,a6,eR];rw[show eS (λht=>ht+bi) (aR b c<|a*ht.size)=aR (bE b) c (a*ht.size)by show bE _=_;rw[mv]];rw[ak (show¬Y [v]+(hu-y)<2 by simp;omega),ak h0,(hw.a hu L).2]);have:=hs;exact h3.symm▸this;cases hf
 cases hc
end
structure Ub where
 a:au
 b:X
def pD(e:aD)(g:Nat)(d:Nat)(c:Nat->S P)(f:bv ah)(a:ah)(b:Ub):Prop:=(bx b.a f a.guard=Q N/\b.b=.c [])\/(bx b.a f a.guard=Q K/\(∀p,a.op≠.defer p)/\∀(n:ap)(m:W Nat)(h:bs)(o:W bz)(j:ap)(i:aX),cR n m h d c j->b0 g i b.a o h->∃l k,((aY i.eval a).run e j=.ok (.value l) k\/(l=ee/\(aY i.eval a).run e j=.ok .skip k))/\aT h b.b=Q l/\cR n m h d c k)
section
variable{y:aD}{s:Nat}{x:bv ah}{q r:ap}{p:W Nat}{u:bs}{w:Nat}{t:Nat->S P}{o:W bz}{n:aX}{z:ah}
def b6{b v}(c:bx b x z.guard=Q K)(a:eb y b dT z=Q v):pD y s w t x z ⟨b,v⟩:=by rw[eb]at a;split at a;rename_i m l d;cases a;refine .inr ⟨c,tH d,λq p u o r n g e=>?_⟩;let⟨k,j,h,f,i⟩:=sH (IF r u) e d;exact⟨k,j,h,f,g.e i.c.below⟩;cases a
def anf{a}(b:bx a x z.guard=Q N):pD y s w t x z ⟨a,.c []⟩:=.inl ⟨b,J⟩
def bL{d}{e c g b:Nat}{a v}(j:bx d x z.guard=Q K)(h:z.op=.load g (.tmp b))(k:aO d b=Q (.a e c))(f:t e=Q a)(i:hB y (cm<|a6 a) g (Q<|.a 0 c)=Q (dd v)):pD y s w t x z ⟨d,v⟩:=by
 refine .inr ⟨j,(λl d=>by cases h▸d),λq p u o r n l j=>?_⟩;have m:dt y [(b,.a 0 c)] (cm<|a6 a) z=Q (.b (cm<|a6 a,Z,λ_=>dd v)):=by rw[dt,h];show dh.a ((hB y (cm<|a6 a) g<|aO [(b,.a 0 c)] b).bind<|ec _)=_;rw[cT,cF];simp[b4];rw[i];rfl
 let⟨hc,hb,i,d,ha,g,h⟩:=l.nd (rF f) j (p1:=[(b,.a 0 c)]) ⟨by rw[k];rfl,C⟩ m J;have c:w+((cm<|a6 a).f-Y [e])=w:=rfl;rw[c,Mp l (l.n f) J (by rfl),B9 f]at h;have b:i=u:=by funext a;obtain m|m:=dy a w;exact ha.e a m;rw[(h.a a m).1,(l.a a m).1]
 subst b;rw[iu (by rw[bi];simp)]at g;exists hc,hb,d,g
end
def EI(b:ah)(v:X)(a:au):au:=match b.dst with|Q c=>(c,v)::a|Z=>a
def ans(b:bv ah)(a:ah):W Nat:=Zr (aG a.op.operands)++Wd b a.guard
def U3(b:bv ah)(a:W ah):aJ:=a.all λd=>(ans b d).all λg=>ms (λj f=>!(match f.dst with|Q e=>aw g e|Z=>N)||d.after.toList.any λc=>hY .any c&&aw c.on j) 0 a
def U2(b:Nat)(a:W ah):aJ:=a.all λd=>match d.dst with|Q c=>cc c b|Z=>K
def anz{d b c}(a:c∈BZ d b):c.1∈b:=by let⟨g,f,e⟩:=us.1 a;obtain⟨v,_,rfl⟩:=b3.1 e;exact f
abbrev U:=W<|Nat×P
structure gO(h:U)(j:Nat->Option P):Prop where
 b:∀i∈h,j i.1=Q i.2
 c:(h.map (·.1)).Nodup
structure bw(t:List Nat)(s)(q:Nat->Option P)(r)(p):Prop where
 a:gO r p
 c:∀j w,q j=Q w->j∉t->p j=Q w
 b:∀v∈r,v.1∈t\/s<=v.1
 d:∀u,s<=u->q u=Z
section
variable{w:W Nat}{x t:Nat}{u y:Nat->S P}{z s:U}
def gO.a(j:gO z y){l h:Nat}{i}(k:z[l]?=Q (h,i)):y h=Q i:=j.b _<|bl k
def gO.f(l:gO z y){i j h k:Nat}{p q}(m:z[i]?=Q (h,p))(o:z[j]?=Q (k,q))(n:i≠j):h≠k:=by
 intro s;subst s;let r:(z.map (·.1))[i]?=Q h:=by rw[cv,m];rfl
 let t:(z.map (·.1))[j]?=Q h:=by rw[cv,o];rfl
 exact n<|(PX (bc.1 r).1 l.c).1<|r▸t▸J
def gO.e(h:gO z y)(i:∀m∈s,m∈z)(j:(s.map (·.1)).Nodup):gO s y:=⟨λk l=>h.b k<|i k l,j⟩
def gO.g(h:gO z y)(i:z.Perm s):gO s y:=⟨λk j=>h.b k<|i.mem_iff.2 j,(i.map _).nodup_iff.1 h.c⟩
def bw.i(j:bw w x u z y)(p:z.Perm s):bw w x u s y:=⟨j.a.g p,j.c,λr q=>j.b r<|p.mem_iff.2 q,j.d⟩
def bw.n(q:bw w x u z y){p}(t:p∈z){j v}(r:u j=Q v)(s:j∉w):j≠p.1:=λha=>by obtain v|v:=q.b p t;exact s<|ha▸v;cases q.d j L▸r
def bw.k(j:bw w x u z y)(q:x<=t)(r:y t=Z)(p:P):bw w x u ((t,p)::z) (dU y t p):=by
 let p:∀v s,y v=Q s->v≠t:=λha hb s v=>by cases r▸v▸s
 refine⟨⟨λs v=>?_,?_⟩,λhd he hc ha=>?_,λs v=>?_,j.d⟩;obtain rfl|r:=cB.1 v;exact ua _ _ _;rw[lM _ _<|p _ _<|j.a.b s r];exact j.a.b s r;rw[c4,gi];refine⟨λhb=>?_,j.a.c⟩;let⟨s,v,r⟩:=cw.1 hb;exact p _ _ (j.a.b s v) r;have:=j.c hd he hc ha;rw[lM _ _<|p _ _ this];exact this;obtain rfl|p:=cB.1 v;exact .inr q;exact j.b s p
def bw.g(q:bw w x u z y){r p v}(s:z[r]?=Q (p,v))(t:P):bw w x u (z.set r (p,t)) (dU y p t):=by
 let hc:=(bc.1 s).1;let hd:(z.set r (p,t)).map (·.1)=z.map (·.1):=by rw[PZ];(have:(z.map (·.1))[r]?=Q p:=by rw[cv,s];rfl);exact qR λj=>by rw[JV];by_cases ha:r=j;subst ha;rw[aC J,aC (by simpa using hc),this];rw[ak ha]
 let hb:∀ha∈z.set r (p,t),ha=(p,t)\/(ha∈z/\ha.1≠p):=λt ha=>by let⟨j,t⟩:=iI.1 ha;rw[JV]at t;by_cases ha:r=j;subst ha;rw[aC J,aC hc]at t;cases t;exact .inl J;rw[ak ha]at t;exact .inr ⟨bl t,q.a.f t s<|λr=>ha r.symm⟩
 refine⟨⟨λr t=>?_,by rw[hd];exact q.a.c⟩,λhf hg hc ha=>?_,λr t=>?_,q.d⟩;obtain rfl|⟨hd,he⟩:=hb r t;exact ua _ _ _;rw[lM _ _ he];exact q.a.b r hd;rw[lM _ _<|q.n (bl s) hc ha];exact q.c hf hg hc ha;obtain rfl|⟨ha,_⟩:=hb r t;exact q.b (p,v)<|bl s;exact q.b r ha
def bp(z:U)(a:W Nat):U:=a.filterMap λb=>z[b]?
def it{c b}(a:b∈bp z c):b∈z:=by let⟨e,_,d⟩:=us.1 a;exact bl d
def BN(a:gO z y):∀{d},d.Nodup->((bp z d).map (·.1)).Nodup|[],_=>by simp[bp]|m::n,c=>by let b:=BN a (gi.1 c).2;rw[bp]at b⊢;rw[kO];rcases g:z[m]?with _|o;exact b;rw[c4,gi];refine⟨λk=>?_,b⟩;let⟨p,l,e⟩:=cw.1 k;let⟨j,h,i⟩:=us.1 l;exact a.f g i (λf=>(gi.1 c).1<|f▸h) e.symm
def gO.d(h:gO z y){i}(j:i.Nodup):gO (bp z i) y:=h.e (λ_ k=>it k)<|BN h j
def bw.f(j:bw w x u z y){p}(q:p.Nodup):bw w x u (bp z p) y:=⟨j.a.d q,j.c,λs r=>j.b s<|it r,j.d⟩
def bw.na(p:bw w x u z y)(hc:x<=t)(hd:y t=Z){ha q he}(s:z[ha]?=Q (q,he)){r}(v:(ha::r).Nodup)(hb:P):bw w x u ((t,hb)::bp z r) (pH y q t hb):=by
 let ha:∀hb he,y hb=Q he->hb≠t:=λhf hg hb he=>by cases hd▸he▸hb
 let hf:∀hb∈bp z r,hb.1≠q:=λr q=>let⟨j,r,hb⟩:=us.1 q;p.a.f hb s<|λq=>(gi.1 v).1<|q▸r;refine⟨⟨λq r=>?_,?_⟩,λhg hh he hb=>?_,λq r=>?_,p.d⟩;obtain rfl|hd:=cB.1 r;exact aC J;have:=p.a.b q<|it hd;rwa[Uv (ha _ _ this)<|hf q hd];rw[c4,gi];refine⟨λhd=>?_,BN p.a (gi.1 v).2⟩;let⟨q,r,v⟩:=cw.1 hd;exact ha _ _ (p.a.b q<|it r) v;have:=p.c hg hh he hb;rwa[Uv (ha _ _ this)<|p.n (bl s) he hb];obtain rfl|s:=cB.1 r;exact .inr hc;exact p.b q<|it s
end
section
variable{y:aD}{o:S Nat}{u:Nat}{h:bv ah}{t b:ap}{s:W Nat}{a r:bs}{x p:Nat}{m:W Nat}{q:Nat->S P}{w p0:U}{z d e:au}{l:W bz}{c:aX}{k:ah}{g:W ah}{n:bR->aX->ap->Prop}{i f:ek}
def aH(y:aD)(o:S Nat)(u:Nat)(h:bv ah)(t:ap)(s:W Nat)(r:bs)(p:Nat)(m:W Nat)(q:Nat->S P)(n:bR->aX->ap->Prop)(g:W ah)(z:au)(l:W bz)(x:Nat)(w:U):Prop:=∀a,bw m p q w a->dY y o u h t s r p n g z l x a
def di(y:aD)(o:S Nat)(u:Nat)(t:ap)(s:W Nat)(r:bs)(p:Nat)(m:W Nat)(q:Nat->S P)(n:bR->aX->ap->Prop)(a:ek)(z:au)(l:W bz)(x:Nat)(w:U):Prop:=∀b,bw m p q w b->rl y o u t s r p n a z l x b
def c6(y:aD)(a:cV)(c:W X)(x:Nat)(w:U)(b:X->Nat->U->Prop):Prop:=(∃e,y.funcs[a]?=Q e/\e.body.isNone=N)/\∀d,gO w d->(∀f,x<=f->d f=Z)->wE y a c x d λv h g=>∃p0,b v h p0/\bw (w.map (·.1)) x d p0 g
def g2(a:di y o u t s r p m q (Exit.then (f.wpIn (bt o) 0 y n) n) i z l x w):di y o u t s r p m q n (.seq i f) z l x w:=λb c=>aeX<|a b c
def cC{b}(a:aH y o u (E g) t s r p m q n g z l x w):di y o u t s r p m q n (.region b (E g) N) z l x w:=λc d=>aeW<|a c d
def aP{b a}(e:al z b=Q (R a))(c:a=K->di y o u t s r p m q n i z l x w)(d:a=N->di y o u t s r p m q n f z l x w):di y o u t s r p m q n (.cond b i f) z l x w:=λg h=>aeU e (λj=>c j g h)<|λk=>d k g h
def wF{a}(c:al z a=Q (R K))(b:di y o u t s r p m q n i z l x w):di y o u t s r p m q n (.cond a i f) z l x w:=aP c (λ_=>b) nofun
def l0{a}(c:al z a=Q (R N))(b:di y o u t s r p m q n f z l x w):di y o u t s r p m q n (.cond a i f) z l x w:=aP c nofun<|λ_=>b
def g1{a}(b:di y o u t s r p m q (pu a n) i z l x w):di y o u t s r p m q n (.block a i) z l x w:=λc d=>aeT<|b c d
def LY{a}(c:iD (λf=>f) z a)(b:di y o u t s r p m q n i a l x w):di y o u t s r p m q n i z l x w:=λd e=>aeV c<|b d e
def uY{a}(c:a.Nodup)(b:aH y o u h t s r p m q n g z l x (bp w a)):aH y o u h t s r p m q n g z l x w:=λd e=>b d<|e.f c
def afG(b:bx z h k.guard=Q N)(a:bP u z k.dst (.c [])=Q e)(c:aH y o u h t s r p m q n g e l x w):aH y o u h t s r p m q n (k::g) z l x w:=λd f=>afd b a<|c d f
def dZ{v}(c:bx z h k.guard=Q K)(a:eb y z dT k=Q v)(b:bP u z k.dst v=Q e)(d:aH y o u h t s r p m q n g e l x w):aH y o u h t s r p m q n (k::g) z l x w:=λf i=>afe c a b<|d f i
def iC{v d}(j:bx z h k.guard=Q K)(f:qt y z dT x k=Q (v,d))(i:bP u z k.dst v=Q e)(ha:aH y o u h t s r p m q n g e l (x+1) ((x,d)::w)):aH y o u h t s r p m q n (k::g) z l x w:=λhf he a b c hc hb hd=>afc j f i (ha _<|he.k hc.d (hb.a x<|bd _).2 d) a b c hc hb hd
def mo{he a b d f:Nat}{c v}(hc:bx z h k.guard=Q K)(ha:k.op=.load d (.tmp f))(hd:aO z f=Q (.a a b))(j:w[he]?=Q (a,c))(i:hB y (cm<|a6 c) d (Q<|.a 0 b)=Q (dd v))(hb:bP u z k.dst v=Q e)(hf:aH y o u h t s r p m q n g e l x w):aH y o u h t s r p m q n (k::g) z l x w:=λb a=>Tx hc ha hd (a.a.a j) i hb<|hf b a
def TG{hf hn hg ha v hj i f hh hi hb hp h4 hd d j:Nat}{ho hk hc}(hy:fH y ha=Q (v,hj))(hz:ei y hg=Q ha)(h0:bx z h k.guard=Q K)(hv:k.op=.call ⟨.builtin .append,#[.tmp i,.tmp f],#[hg,hg]⟩)(h1:aO z i=Q (.d hh 0 hb 0))(h3:aO z f=Q (.d hi hd d j))(h2:aw i f=N)(he:w[hf]?=Q (hh,.b ha v hp hk))(hl:w[hn]?=Q (hi,.b ha v h4 hc))(hu:(hf::ho).Nodup)(hm:aw hf hn=N)(hr:hb<=hp)(hs:Y (aR hc hd<|d*v)=d*v)(hw:(aR hc hd<|d*v).all aB=K)(hq:(hb+d)*(hj+1)<=100000000000)(ht:0<d)(hx:bP u z k.dst (.d x 0 (hb+d) 0)=Q e)(h5:aH y o u h t s r p m q n g e l (x+1) ((x,.b ha v (hb+d)<|hk.take (hb*v)++aR hc hd (d*v))::bp w ho)):aH y o u h t s r p m q n (k::g) z l x w:=λhd d a b c hb v hc=>ae2 hy hz h0 hv h1 h3 h2 (d.a.a he) (d.a.a hl) (d.a.f he hl (λha=>by rw[ha,cF]at hm;cases hm)) hr hs hw hq ht hx (h5 _<|d.na hb.d (v.a x<|bd _).2 he hu _) a b c hb v hc
def DC{ht hd hb v hf i f he hu hc d j:Nat}{ha}(hn:fH y hb=Q (v,hf))(ho:ei y hd=Q hb)(hp:bx z h k.guard=Q K)(hk:k.op=.call ⟨.builtin .append,#[.tmp i,.tmp f],#[hd,hd]⟩)(hq:aO z i=Q (ab))(hs:aO z f=Q (.d he hc d j))(hr:aw f i=N)(hh:w[ht]?=Q (he,.b hb v hu ha))(hi:Y (aR ha hc<|d*v)=d*v)(hl:(aR ha hc<|d*v).all aB=K)(hg:d*(hf+1)<=100000000000)(hj:0<d)(hm:bP u z k.dst (.d x 0 d 0)=Q e)(hv:aH y o u h t s r p m q n g e l (x+1) ((x,.b hb v d<|aR ha hc<|d*v)::w)):aH y o u h t s r p m q n (k::g) z l x w:=λhc d a b c ha v hb=>aeY hn ho hp hk hq hs hr (d.a.a hh) hi hl hg hj hm (hv _<|d.k ha.d (v.a x<|bd _).2 _) a b c ha v hb
def afE{hl ha c i b:Nat}{f:dW}{j:aJ}{v:ac}{a:bh}{d:W (ac×X)}(hf:bx z h k.guard=Q K)(hc:k.op=.lookup ha (.tmp i) f j)(he:ud y ha=Q c)(hj:kL y c=Q a)(hk:dd (jO a)=jO a)(hg:aO z i=Q (.g b))(hh:al z f=Q (O v))(hi:∀hn,f=.tmp hn->aw hn i=N)(hb:w[hl]?=Q (b,.c d))(hd:bP u z k.dst (yY j (jO a)<|cp v d)=Q e)(hm:aH y o u h t s r p m q n g e l x w):aH y o u h t s r p m q n (k::g) z l x w:=λb a=>afa hf hc he hj hk hg hh hi (a.a.a hb) hd<|hm b a
def afF{e ha hb i f a b:Nat}{j v c}(hi:bx z h k.guard=Q K)(hg:k.op=.mapUpdate ha (.tmp i) (.tmp f) (.tmp a))(hf:k.dst=Z)(hh:ud y ha=Q hb)(hj:aO z i=Q (.g b))(hk:aO z f=Q (O j))(hl:aO z a=Q v)(hc:aw f i=N)(hd:aw a i=N)(he:aw a f=N)(d:w[e]?=Q (b,.c c))(hm:aH y o u h t s r p m q n g z l x (w.set e (b,.c<|iZ j v c))):aH y o u h t s r p m q n (k::g) z l x w:=λb a=>afb hi hg hf hh hj hk hl hc hd he (a.a.a d)<|hm _<|a.g d _
def afA{hq hc d v i ha c hb b j f a:Nat}{hr hd}(hn:bx z h k.guard=Q K)(hj:k.op=.slice hc (.tmp i) (Q<|.tmp ha) Z Z)(hm:ei y hc=Q d)(hl:qI y d v=K)(ho:aO z i=Q (.d c hb b j))(hi:aO z ha=Q (.k<|.int hr<|.ofNat a))(hp:aw ha i=N)(hh:w[hq]?=Q (c,.b d v f hd))(he:a<=b)(hf:j+b<=f)(hg:a=0\/j+a<f)(hk:bP u z k.dst (.d c (hb+a*v) (b-a)<|j+a)=Q e)(hs:aH y o u h t s r p m q n g e l x w):aH y o u h t s r p m q n (k::g) z l x w:=λb a=>ae8 hn hj hm hl ho hi hp (a.a.a hh) he hf hg hk<|hs b a
def TU{hn hb b ha i d a v hq j f c:Nat}{ho hc}(hk:bx z h k.guard=Q K)(hg:k.op=.slice hb (.tmp i) Z (Q<|.tmp d) Z)(hj:ei y hb=Q b)(hi:qI y b ha=K)(hl:aO z i=Q (.d a v hq j))(hf:aO z d=Q (.k<|.int ho<|.ofNat c))(hm:aw d i=N)(he:w[hn]?=Q (a,.b b ha f hc))(hd:j+c<=f)(hh:bP u z k.dst (.d a v c j)=Q e)(hp:aH y o u h t s r p m q n g e l x w):aH y o u h t s r p m q n (k::g) z l x w:=λb a=>afg hk hg hj hi hl hf hm (a.a.a he) hd hh<|hp b a
def ajc{e a d b c}(g:y.funcs[e]?=Q a)(f:a.body=Q d)(i:cY (Y b) a.ntmps=K)(h:∀t s r q,di y Z a.ntmps t s r x (w.map (·.1)) q (gE (bt Z) 0 y a<|hP r x t s λv l k=>∃p0,c v l p0/\bw (w.map (·.1)) x q p0 k) d (kJ 0 b) [] x w):c6 y e b x w c:=⟨⟨a,g,by rw[f];rfl⟩,λj p m=>aiZ g f i λt s r=>h t s r j j ⟨p,λ_ _ o _=>o,λu n=>.inl<|cw.2 ⟨u,n,J⟩,m⟩⟩
def tW(z:au):W ResultVar->S (W X)|[]=>Q []|.tmp b::a=>A3 (aO z b) (tW z a)|.cell _ _::_=>Z
def I1(x):∀(r)(n),tW z r=Q n->∃d,iD (bQ [] x) z d/\hX y d ⟨0,.a⟩ r=Q (bE n)|[],b,s=>by cases s;exists[],C|.cell _ _::_,e,t=>by cases t|.tmp e::q,m,u=>by obtain⟨v,o,m,b,rfl⟩:=Hm u;let⟨d,w,n⟩:=I1 x q o b;let a:iD (bQ [] x) z ((e,dd v)::d):=⟨by rw[m,iu az],w⟩;exists(e,dd v)::d,a;(let t:∀(h)(g),tW z h=Q g->hX y d ⟨0,.a⟩ h=Q (bE g)->hX y ((e,dd v)::d) ⟨0,.a⟩ h=Q (bE g):=λj=>by induction j with|nil=>intro p g _;cases g;rfl|cons i w s=>intro f b a;cases i with|cell c l=>cases b|tmp j=>obtain⟨g,p,l,h,rfl⟩:=Hm b;rw[hX,BX]at a⊢;cases f:hX y d ⟨0,.a⟩ w with|none=>rw[f]at a;cases k:aO d j<;>rw[k]at a<;>cases a|some u=>rw[f]at a;(have r:u=bE p:=by cases k:aO d j with|none=>cases k▸a|some u=>rw[k,hJ]at a;rw[bE]at a⊢;exact(Fx a).2);subst r;rw[s p h f,cT];cases f:aw j e with|true=>have:=b8 f;subst this;cases m▸l;rfl|false=>exact a);rw[hX,BX,t q o b n,cT,cF];rfl
def tV{b}(c:Y b<=bi)(a):dv (bQ b x) (dL<|bE a)=dL a:=by obtain _|⟨v,f⟩:=a;rfl;cases f with|nil=>exact iu c v|cons e d=>show X.c (eS _<|bE<|v::e::d)=X.c (v::e::d);rw[BW c]
end
def bw.m{r j x v t u q w}(p:bw r j v q t)(y:j<=x)(s:bw (q.map (·.1)) x t w u):bw r j v w u:=by
 let t:∀u∈q.map (·.1),u∈r\/j<=u:=λq z=>by obtain⟨j,x,rfl⟩:=cw.1 z;exact p.b j x
 refine⟨s.a,λz v q r=>s.c z v (p.c z v q r)<|λw=>?_,λu y=>?_,p.d⟩;obtain j|j:=t z w;exact r j;cases p.d z j▸q;obtain p|p:=s.b u y;exact t _ p;exact .inr L
def bw.h{q j p}(r:gO p j)(s:∀t,q<=t->j t=Z):bw (p.map (·.1)) q j p j:=⟨r,λ_ _ v _=>v,λw u=>.inl<|cw.2 ⟨w,u,J⟩,s⟩
def Ha(a:ah)(j:Nat):aJ:=a.after.toList.any λb=>hY .any b&&aw b.on j
def UE{a j}:Ha a j=K↔∃b,b∈a.after/\hY .any b=K/\b.on=j:=by rw[Ha,fO];constructor;rintro⟨d,g,c⟩;rw[cQ]at c;exact⟨d,by simpa using g,c.1,b8 c.2⟩;rintro⟨e,h,f,rfl⟩;exact⟨e,by simpa using h,by rw[f,cF];rfl⟩
def IZ(a:W ah):Nat->ah->Nat->aJ|0,e,j=>Ha e j|d+1,c,j=>Ha c j||c.after.toList.any λb=>hY .any b&&(match a[b.on]? with|Q f=>IZ a d f j|Z=>N)
def Ym{b}{a:bv aJ}(c:∀(n)(o)(f),b[n]?=Q o->a.getD n N=K->f∈o.after->hY .any f=K->a.getD f.on N=K):∀(t)(p)(j),(∀k∈p.after,hY .any k=K->a.getD k.on N=K)->IZ b t p j=K->a.getD j N=K|0,d,j,x,v=>by obtain⟨r,a,y,rfl⟩:=UE.1 v;exact x r a y|u+1,e,j,m,l=>by simp only[IZ,lu,fO,cQ]at l;obtain w|⟨d,h,g,e⟩:=l;obtain⟨d,h,g,rfl⟩:=UE.1 w;exact m d h g;let f:=m d (by simpa using h) g;cases i:b[d.on]? with|none=>cases i▸e|some q=>rw[i]at e;exact Ym c u q j (λs b z=>c d.on q s i f b z) e
abbrev Mb:=W<|Nat×U
section
variable{z:Nat}{y:ah}{x:aX}
def HW{a:bv aJ}{z j:Nat}:(a.setIfInBounds z K).getD j N=if z=j then(if z<aj a then K else N)else a.getD j N:=by rw[qV,vQ,qV];by_cases b:z=j;rw[aC b,aC b];by_cases c:z<aj a;rw[aC c,aC c];rfl;rw[ak c,ak c];rfl;rw[ak b,ak b]
def Yf{b}{a:Nat}(c:y.dst≠Q a):(x.put y.dst b).tmps[a]?=x.tmps[a]?:=by rcases f:y.dst with _|d;rfl;show(x.tmps.setIfInBounds d b)[a]?=_;rw[vQ,ak<|λe=>c (by rw[f,e])]
end
section
variable{x:aD}{z:S Nat}{i:Nat}{s:bv ah}{n y q:ap}{m:W Nat}{p h:bs}{l g:Nat}{c:W Nat}{b t:Nat->S P}{d:U}{u:au}{e:W bz}{r:aX}{w:ah}{k:W ah}{o:bR->aX->ap->Prop}
def cR.f(r:cR n m p l t y){s v u}(w:t s=Q v)(z:p s=Q u)(x:q.os=y.os/\q.tape=y.tape/\q.output=y.output)(hd:aj q.heap=aj y.heap)(hb:∀he,he≠u.1->q.heap[he]?=y.heap[he]?)(ha)(hc:e1 p u ha q.heap[u.1]?):cR n m p l (dU t s ha) q:=by
 let⟨hf,he,_,hh⟩:=r.b s v w;rw[z]at he;cases he;refine⟨⟨x.1.trans r.c.h,x.2.1.trans r.c.f,x.2.2.trans r.c.c,hd▸r.c.a,λhe hf hg=>?_⟩,λhe hf=>?_,?_,?_⟩;rw[hb he<|λx=>hh.elim (λhd=>hg<|x▸hd) (λhh=>L)];exact r.c.b he hf hg;exact⟨(r.a he hf).1,by rw[lM _ _ (by have:=r.n w;omega)];exact(r.a he hf).2⟩;intro j hf x;by_cases hd:j=s;subst hd;rw[ua]at x;cases x;exists u,z,hc;rw[lM _ _ hd]at x;let⟨hc,he,hh,hg⟩:=r.b j hf x;exists hc,he,hb hc.1 (λhg=>hd<|r.d j s hf v hc u x w he z hg)▸hh;intro j w hh hi hf hg hc z hd he u;let hb:∀(x)(hj),dU t s ha x=Q hj->∃hk,t x=Q hk:=λw x z=>by by_cases u:w=s;subst u;exists v;rw[lM _ _ u]at z;exists x
 let⟨x,s⟩:=hb j hh hc;let⟨ha,v⟩:=hb w hi z;exact r.d j w x ha hf hg s v hd he u
def BT(b:Nat)(a:W X):P->P|.a z=>.a (gR z b a)|.b d f e z=>.b d f e (gR z b a)|c=>c
def pj(a:Nat):P->Prop|.a z=>a<=Y z|.b _ _ _ z=>a<=Y z|_=>False
def aff{hd q a c:Nat}{he hf:dW}{f:P}{d:W X}{v:X}(hl:bx u s w.guard=Q K)(hb:w.op=.store hd he hf)(hi:w.dst=Z)(hm:al u he=Q (.a q a))(hn:al u hf=Q v)(ha:t q=Q f)(hj:fI x hd=Q c)(hk:mI v=Q d)(hh:Y d=c)(hg:d.all aB=K)(b:pj (a+c) f)(hc:dY x z i s n m h g o k u e l (dU t q<|BT a d f)):dY x z i s n m h g o (w::k) u e l t:=by
 intro p y r ki h1 hx;simp[fA,ft hx hl];existsλ_ _=>C;rw[fC _ _ _ (λd hw=>by cases hb▸hw)];let⟨hr,h3,hw⟩:=pd (hx.a hm);let⟨hp,hy,h7⟩:=Hv hk (hx.a hn);have kf:Y hp=c:=l5 hy▸hh▸J;let⟨kv,h4,hz,kp⟩:=h1.b q _ ha;cases h3▸h4;have h5:∀(ho:bv bh)(hq:TypeId),y.heap[hr.1]?=Q (.cells ho hq (0,0))->a+c<=aj ho->e1 p hr (BT a d f) (Q<|.cells (E<|ho.toList.take a++hp++ho.toList.drop (a+Y hp)) hq (0,0))->Oper.uponIn (bt z) 0 x w r (fA (bt z) 0 x s o k) o ((aY r.eval w).run x y):=λho hq hs kr kq=>by (have kh:(aY r.eval w).run x y=.ok .skip (y.setRow hr.1<|E<|ho.toList.take a++hp++ho.toList.drop (a+Y hp)):=by simp[aY,hb,hw];simp[Instr.storeAt,Instr.sureAddr,storeVar,h7];simp[mH hj y,kf,run_storeCells_at x hr.1 a hq hp 0 ho y hs L<|yB hg hy]);rw[kh];(have kg:r.put w.dst ee=r:=by rw[hi];rfl);show fA (bt z) 0 x s o k (r.put w.dst ee) _;rw[kg];refine hc p _ r ki (h1.f (q:=y.setRow hr.1<|E<|ho.toList.take a++hp++ho.toList.drop (a+Y hp)) ha h3 ⟨J,J,J⟩ az (λj kb=>setRow_other y hr.1 j _ kb) _ ?_) hx;rwa[setRow_heap y hr.1 _ _ hq _ hs]
 cases f with|a hu=>let⟨ht,hq,hv,hs⟩:=hz;have ke:Y ht=Y hu:=l5 hv;have kd:a+c<=Y hu:=b;refine h5 (E ht) hq hs (by simp;omega)<|⟨_,hq,Ba hv hy a,J⟩|b h6 kn km hu=>let⟨ht,ho,hv,kt,hs,h2,kc,h8,kk⟩:=hz;have ke:Y ht=Y hu:=l5 hv;have kd:a+c<=Y hu:=b;have ks:km*kn<=aj ho:=h8▸J6 _ h2;refine h5 ho h6 hs L ?_;have h0:Y ho.toList=aj ho:=pt;refine⟨ht.take a++hp++ht.drop (a+Y hp),_,Ba hv hy a,?_,J,h2,kc,?_,?_⟩;rw[bJ,bJ,jw,pX];omega;simp[h0];omega;·simp;rw[<-kk];apply qR;intro ku;simp[pW,asE,h0];(split<;>repeat' split<;>first|rfl|omega|congr 1;omega|skip);all_goals(first|rfl|exfalso;omega|skip)|c ko=>exact b.elim|d d hc=>exact b.elim|g _ _ _ _ _ _ _=>exact b.elim|f=>exact b.elim|l c=>exact b.elim|k z _ _=>exact b.elim|i _=>exact b.elim|h _ _ _=>exact b.elim|e _ _ _ _ _ _ _ _=>exact b.elim
def TQ{y ha f p j:Nat}{hb hc q a v}(hk:bx u s w.guard=Q K)(hh:w.op=.store ha hb hc)(hf:w.dst=Z)(hl:al u hb=Q (.a f p))(hm:al u hc=Q v)(r:d[y]?=Q (f,q))(hi:fI x ha=Q j)(hj:mI v=Q a)(he:Y a=j)(hd:a.all aB=K)(hg:pj (p+j) q)(hn:aH x z i s n m h g c b o k u e l (d.set y (f,BT p a q))):aH x z i s n m h g c b o (w::k) u e l d:=λt a=>aff hk hh hf hl hm (a.a.a r) hi hj he hd hg<|hn _<|a.g r _
def xa{e a c:Nat}{d b}(g:sV x e=Q K)(h:fI x e=Q a)(f:fT d=Q b)(i:Y (aR b c a)=a):hB x (cm<|a6 d) e (Q<|.a 0 c)=Q (dd<|.b<|aR b c a):=by
 let j:((cm<|a6 d).a 0).bind fT=Q (bE b):=by cases d<;>cases f<;>rfl
 let k:Y (aR (bE b) c a)=a:=by rwa[mv,Ca]
 simp[hB,j,tP,g,h,k,b4];rw[mv];rfl
end
section
variable{h:aD}{d:S Nat}{t:Nat}{p0:bv ah}{x m p4:ap}{w:W Nat}{i r:bs}{q y:Nat}{u:W Nat}{s g:Nat->S P}{p b:U}{z p2 p3:au}{o:W bz}{n:aX}{c:ah}{p1:W ah}{l:bR->aX->ap->Prop}{f e:ek}{k:bR}
def kA(t:Nat)(x:ap)(w:W Nat)(r:bs)(y:Nat)(u:W Nat)(s:Nat->S P)(z:au)(o:W bz)(q:Nat)(p:U)(n:aX)(m:ap):Prop:=∃g i,bw u y s p g/\fq r y i q/\cR x w i q g m/\b0 t n z o i
def br(t:Nat)(x:ap)(w:W Nat)(r:bs)(y:Nat)(u:W Nat)(s:Nat->S P)(l:bR->aX->ap->Prop)(k:bR)(z:au)(o:W bz)(q:Nat)(p:U):Prop:=∀n m,kA t x w r y u s z o q p n m->l k n m
def cG(a:br t x w r y u s l .normal z o q p):aH h d t p0 x w r y u s l [] z o q p:=λg b=>Tz λi m n f e c=>a n m ⟨g,i,b,f,e,c⟩
def ev(a:br t x w r y u s l .ret z o q p):di h d t x w r y u s l .ret z o q p:=λg b i m n f e c=>wpIn_ret<|a n m ⟨g,i,b,f,e,c⟩
def uX{a}(b:br t x w r y u s l (.exit a) z o q p):di h d t x w r y u s l (.exit a) z o q p:=λg c i m n j f e=>wpIn_exit<|b n m ⟨g,i,c,j,f,e⟩
def eB(a:br t x w r y u s l .normal z o q p):di h d t x w r y u s l .skip z o q p:=λg b i m n f e c=>wpIn_skip<|a n m ⟨g,i,b,f,e,c⟩
def eC(a:di h d t x w r y u s l e z o q p):br t x w r y u s (Exit.then (e.wpIn (bt d) 0 h l) l) .normal z o q p:=λn m⟨g,i,b,j,f,c⟩=>a g b i m n j f c
def dI{a}(b:br t x w r y u s l .ret z o q p):br t x w r y u s (Exit.then a l) .ret z o q p:=b
def ch{b a}(c:br t x w r y u s l (.exit a) z o q p):br t x w r y u s (Exit.then b l) (.exit a) z o q p:=c
def ef{b}(a:br t x w r y u s l .normal z o q p):br t x w r y u s (pu b l) .normal z o q p:=a
def hQ{b}(a:br t x w r y u s l .ret z o q p):br t x w r y u s (pu b l) .ret z o q p:=a
def uZ{a}(b:br t x w r y u s l .normal z o q p):br t x w r y u s (pu a l) (.exit a) z o q p:=λn m c=>by show(if a=a then _ else _);rw[aC J];exact b n m c
def afR{b a:Nat}(c:aw a b=N)(d:br t x w r y u s l (.exit a) z o q p):br t x w r y u s (pu b l) (.exit a) z o q p:=λn m e=>by show(if a=b then _ else _);rw[ak (λk=>by rw[k,cF]at c;cases c)];exact d n m e
def eg{c b}{a:X->Nat->U->Prop}{u}(d)(f:k=.normal\/k=.ret)(l:fc h)(o:tW z c.results.toList=Q b)(j:d.Nodup)(e:a (dL b) q (bp p d)):br t x w r y u s (gE (bt Z) 0 h c<|hP r y x w λv hc hb=>∃ha,a v hc ha/\bw u y s ha hb) k z [] q p:=λn m⟨g,i,hg,hj,hi,hh⟩=>by obtain⟨p2,he,hf⟩:=I1 q _ b o;have:=wN l ⟨J,az,az,(λhk hm hd=>by cases hd),(λhk hl hd=>by cases hd)⟩ he hf (a:=λv hc hb=>∃ha,a v hc ha/\bw u y s ha hb) (by rw[tV az];exact⟨_,e,hg.f j⟩) hj hi hh;obtain rfl|rfl:=f;(·exact this);·exact this
def mq(z:au):au->Prop|[]=>True|a::b=>aO z a.1=Q a.2/\mq z b
def mq.a:∀{p2},mq z p2->∀e v,aO p2 e=Q v->aO z e=Q v|[],_,h,v,g=>by cases g|(j,k)::i,d,f,v,b=>by rw[cT]at b;cases c:aw f j with|true=>cases c▸b;have:=b8 c;subst this;exact d.1|false=>rw[c]at b;exact d.2.a f v b
def kA.a{b c}(f:mq z b)(e:c.Nodup)(d:kA t x w r y u s z o q p n m):kA t x w r y u s b o q (bp p c) n m:=let⟨g,i,k,b,l,h⟩:=d;⟨g,i,k.f e,b,l,⟨⟨h.b.1,λj v c=>h.b.2 j v<|f.a j v c⟩,h.d⟩⟩
def NG{a:Nat->Prop}(b:∃m,a m):∃d,a d/\∀j,a j->d<=j:=by let⟨n,h⟩:=b;induction n using vO with|_ e l=>by_cases c:∃j,j<e/\a j;let⟨j,f,k⟩:=c;exact l j f k;exact⟨e,h,λj g=>aaR λi=>c ⟨j,i,g⟩⟩
def l1{p:Type}(j:p->Nat)(e:p->au)(c:p->Nat)(b:p->U)(a)(q:∀a,di h d t x w r y u s (Exit.then (λn m=>∃v,j v<j a/\kA t x w r y u s (e v) o (c v) (b v) n m) l) f (e a) o (c a) (b a)):di h d t x w r y u s l (.loop f) (e a) o (c a) (b a):=λg ha i m n he hd hc=>by classical let z:=λn m=>if v:∃p a,j a=p/\kA t x w r y u s (e a) o (c a) (b a) n m then aa4 (NG v)else 0;(let hb:∀n m a,kA t x w r y u s (e a) o (c a) (b a) n m->z n m<=j a:=λn m a v=>by let p:∃hf a,j a=hf/\kA t x w r y u s (e a) o (c a) (b a) n m:=⟨_,a,J,v⟩;show(if p:_ then _ else _)<=_;rw[dif_pos p];exact(CH<|NG p).2 _ ⟨a,J,v⟩);refine wpIn_loop (λn m=>∃a,kA t x w r y u s (e a) o (c a) (b a) n m) z ⟨a,g,i,ha,he,hd,hc⟩ ?_;rintro n m⟨hc,p⟩;let v:∃ha a,j a=ha/\kA t x w r y u s (e a) o (c a) (b a) n m:=⟨_,hc,J,p⟩;let⟨a,c,b⟩:=(CH<|NG v).1;(let p:z n m=j a:=by show(if v:_ then _ else _)=_;rw[dif_pos v];exact c.symm);let⟨g,i,j,e,c,z⟩:=b;refine ia (q a g j i m n e c z) ?_;intro k e p4 b;cases k with|normal=>let⟨c,q,a⟩:=b;exact⟨⟨c,a⟩,p▸as4 (hb e p4 c a) q⟩|_=>exact b
def GK{b:Type}{c:b->Nat}{h:b->au}{f:b->Nat}{d:b->U}{g}(a)(e)(ha:c a<c g)(i:mq z (h a))(k:f a=q)(v:e.Nodup)(j:d a=bp p e):br t x w r y u s (Exit.then (λn m=>∃a,c a<c g/\kA t x w r y u s (h a) o (f a) (d a) n m) l) .normal z o q p:=λn m b=>⟨a,ha,k▸j▸b.a i v⟩
def cR.nb(u:cR x w i q g m){r k j s p t}(v:g r=Q (.b k j s t))(y:p<=s):cR x w i q (dU g r<|.b k j p<|t.take<|p*j) m:=by let⟨hi,hd,⟨hf,z,he,hh,hc,hg,t,ha,hb⟩,_⟩:=u.b r _ v;refine u.f v hd bq J (λ_ _=>rfl) _ ?_;let r:p*j<=s*j:=J6 _ y;exists hf.take (p*j),z,Ea _ he,by rw[jw];omega,hc,L,t,ha;rw[<-hb,aaM];congr 1;omega
def GR{v d h c ha a e f}(b:U)(j:p[v]?=Q (d,.b h c ha e))(he:a<=ha)(hd:e.take (a*c)=f)(hc:p.set v (d,.b h c a f)=b)(hb:br t x w r y u s l k z o q b):br t x w r y u s l k z o q p:=λn m⟨g,i,a,e,d,c⟩=>by subst hd;subst hc;exact hb n m ⟨_,i,a.g j _,e,d.nb (a.a.a j) he,c⟩
def g3{m n g j i:Nat}{f e k a v}(b:U)(hj:bx z p0 c.guard=Q K)(hg:c.op=.store n f e)(hd:c.dst=Z)(hk:al z f=Q (.a g j))(hl:al z e=Q v)(he:p[m]?=Q (g,k))(hh:fI h n=Q i)(hi:mI v=Q a)(hc:Y a=i)(ha:a.all aB=K)(hf:pj (j+i) k)(hb:p.set m (g,BT j a k)=b)(hm:aH h d t p0 x w r y u s l p1 z o q b):aH h d t p0 x w r y u s l (c::p1) z o q p:=by subst hb;exact TQ hj hg hd hk hl he hh hi hc ha hf hm
def mn{v hg ha k g hd f e hb hc i hi h2 n a j:Nat}{hh he m hf}(b:U)(hw:fH h k=Q (g,hd))(hx:ei h ha=Q k)(hy:bx z p0 c.guard=Q K)(ht:c.op=.call ⟨.builtin .append,#[.tmp f,.tmp e],#[ha,ha]⟩)(hz:aO z f=Q (.d hb 0 i 0))(h1:aO z e=Q (.d hc n a j))(h0:aw f e=N)(hm:p[v]?=Q (hb,.b k g hi he))(hn:p[hg]?=Q (hc,.b k g h2 m))(hs:(v::hh).Nodup)(ho:aw v hg=N)(hp:i<=hi)(hq:Y (aR m n<|a*g)=a*g)(hu:(aR m n<|a*g).all aB=K)(hk:(i+a)*(hd+1)<=100000000000)(hr:0<a)(hv:bP t z c.dst (.d q 0 (i+a) 0)=Q p3)(hl:he.take (i*g)++aR m n (a*g)=hf)(hj:(q,.b k g (i+a) hf)::bp p hh=b)(h3:aH h d t p0 x w r y u s l p1 p3 o (q+1) b):aH h d t p0 x w r y u s l (c::p1) z o q p:=by subst hl;subst hj;exact TG hw hx hy ht hz h1 h0 hm hn hs ho hp hq hu hk hr hv h3
def TH{ht n k g ha f e v hu m a j:Nat}{i hb}(hc)(b)(hn:fH h k=Q (g,ha))(ho:ei h n=Q k)(hp:bx z p0 c.guard=Q K)(hk:c.op=.call ⟨.builtin .append,#[.tmp f,.tmp e],#[n,n]⟩)(hq:aO z f=Q (ab))(hs:aO z e=Q (.d v m a j))(hr:aw e f=N)(hg:p[ht]?=Q (v,.b k g hu i))(hi:Y (aR i m<|a*g)=a*g)(hl:(aR i m<|a*g).all aB=K)(he:a*(ha+1)<=100000000000)(hj:0<a)(hm:bP t z c.dst (.d q 0 a 0)=Q p3)(hf:aR i m (a*g)=hb)(hh:(0::hc).Nodup)(hd:bp ((q,.b k g a hb)::p) (0::hc)=b)(hv:aH h d t p0 x w r y u s l p1 p3 o (q+1) b):aH h d t p0 x w r y u s l (c::p1) z o q p:=by subst hf;subst hd;exact DC hn ho hp hk hq hs hr hg hi hl he hj hm<|uY hh hv
def DE{j n k f e a g:Nat}{m v i}(b:U)(hi:bx z p0 c.guard=Q K)(hg:c.op=.mapUpdate n (.tmp f) (.tmp e) (.tmp a))(he:c.dst=Z)(hh:ud h n=Q k)(hj:aO z f=Q (.g g))(hk:aO z e=Q (O m))(hl:aO z a=Q v)(ha:aw e f=N)(hb:aw a f=N)(hc:aw a e=N)(hf:p[j]?=Q (g,.c i))(hd:p.set j (g,.c<|iZ m v i)=b)(hm:aH h d t p0 x w r y u s l p1 z o q b):aH h d t p0 x w r y u s l (c::p1) z o q p:=by subst hd;exact afF hi hg he hh hj hk hl ha hb hc hf hm
def agB{a b}(c:Y a=b)(v):a.take (b*1)++aR [v] 0 (1*1)=a++[v]:=by rw[xN,gT L];rfl
def agC{b c d e a}(f:Y b=d*a)(g:Y c=e*a):b.take (d*a)++aR c 0 (e*a)=b++c:=by rw[gT L,aR,vJ,gT L]
def dK{a j}:aF a j=K↔a<j:=by
 cases a<;>cases j<;>simp only[aF]<;>first|rw[decide_eq_true_eq]|skip
 rename_i n b;constructor;intro c;have:=ez c;show(n:Int)<b;omega;intro d;let e:(n:Int)<b:=d;exact gU L
def dc{a j}:ao a j=K↔a=j:=by
 cases a<;>cases j<;>simp only[ao]<;>first|rw[decide_eq_true_eq]|skip
 rename_i n d;constructor;intro b;rw[b8 b];intro c;cases c;exact cF _
end
section
variable{w:aD}{k:S Nat}{s:Nat}{r:bv ah}{p p3:ap}{o:W Nat}{p0 i:bs}{z h:Nat}{g:W Nat}{f c:Nat->S P}{n:U}{u b p1 q:au}{m:W bz}{p4:aX}{t:ah}{p2:W ah}{e:bR->aX->ap->Prop}{x l:ek}{y:bR}{v:X}{a:Nat->aJ}{d:Nat}
def kX{b a}(j:al u b=Q (R a))(d:a=K)(c:di w k s p o i h g f e x u m z n):di w k s p o i h g f e (.cond b x l) u m z n:=aP j (λ_=>c) (λy=>by cases d▸y)
def dz{b a}(j:al u b=Q (R a))(d:a=N)(c:di w k s p o i h g f e l u m z n):di w k s p o i h g f e (.cond b x l) u m z n:=aP j (λy=>by cases d▸y)<|λ_=>c
def yu{hl q y x c:Nat}{l:dW}{a:aJ}{j:ac}{b:bh}{d:W (ac×X)}{v:X}(hf:bx u r t.guard=Q K)(hb:t.op=.lookup q (.tmp x) l a)(hd:ud w q=Q y)(hj:kL w y=Q b)(hk:dd (jO b)=jO b)(hg:aO u x=Q (.g c))(hh:al u l=Q (O j))(hi:∀hn,l=.tmp hn->aw hn x=N)(ha:n[hl]?=Q (c,.c d))(he:yY a (jO b) (cp j d)=v)(hc:bP s u t.dst v=Q p1)(hm:aH w k s r p o i h g f e p2 p1 m z n):aH w k s r p o i h g f e (t::p2) u m z n:=by subst he;exact afE hf hb hd hj hk hg hh hi ha hc hm
def ang{r q b a e g}(k:bx q r t.guard=Q K)(d:∀l,t.op≠.defer l)(f:c a=Q e)(h:∀z,iD (bQ [a] z) q b)(i:dt w b (cm<|a6 e) t=Q (.b (cm<|a6 e,Z,g)))(j:∀z,dv (bQ [a] z) (g 0)=v):pD w s z c r t ⟨q,v⟩:=by
 refine .inr ⟨k,d,λp o p0 m p3 p4 l n=>?_⟩;let⟨x,hb,g,k,ha,d,y⟩:=l.nd (rF f) n (h z) i J;have h:z+((cm<|a6 e).f-Y [a])=z:=rfl;rw[h,Mp l (l.n f) J (by rfl),B9 f]at y;have a:g=p0:=by funext u;obtain n|n:=dy u z;exact ha.e u n;rw[(y.a u n).1,(l.a u n).1]
 subst a;rw[j]at d;exists x,hb,k,d
def Yg{r q}{n y h x e l b g j d a:Nat}{f i}(ha:bx q r t.guard=Q K)(m:t.op=.slice n (.tmp x) Z (Q<|.tmp e) Z)(k:ei w n=Q y)(v:qI w y h=K)(hb:aO q x=Q (.d l b g j))(u:aO q e=Q (.k<|.int f<|.ofNat a))(hc:aw e x=N)(p:c l=Q (.b y h d i))(o:j+a<=d):pD w s z c r t ⟨q,.d l b a j⟩:=by
 refine ang (b:=[(x,.d 0 b g j),(e,.k<|.int f<|.ofNat a)]) (g:=λ_=>.d 0 (b+0*h) (a-0)<|j+0) ha (λi y=>by cases m▸y) p (λz=>⟨by rw[hb];rfl,by rw[u];rfl,C⟩) ?_ (λz=>by simp[dv,bQ]);rw[dt,m];let l:al [(x,X.d 0 b g j),(e,X.k<|.int f<|.ofNat a)] (.tmp x)=Q (.d 0 b g j):=by simp[al];rw[cT,cF];rfl
 let m:al [(x,X.d 0 b g j),(e,X.k<|.int f<|.ofNat a)] (.tmp e)=Q (.k<|.int f<|.ofNat a):=by simp[al];rw[cT,hc];simp[dE];rw[cT,cF];rfl
 let b:kH (cm<|a6<|.b y h d i) 0=Q (y,h,d,bE i):=by rw[kH,hC];rfl
 let e:cY 0 a=K:=gU<|eL _;let g:(aw 0 0||cc (j+0) d)=K:=rfl;rw[ei]at k;split at k;rename_i h a;cases k;simp only[l,m,Bf,yE,iW,Ef,a,b,cF,v,gU o,dh.a];rfl;cases k
end
section
variable{x:W Nat}{z w:Nat}{r u q:Nat->S P}{t p y s:U}
def bw.e(j:bw x z r t u)(he:z<=w)(hd:∀hf,w<=hf->u hf=Z)(ha:∀hg∈y,hg∈t)(hb:∀hh∈s,hh∈t)(hc:((y++s).map (·.1)).Nodup)(v:bw (y.map (·.1)) w u p q):bw x z r (p++s) q:=by
 rw[c2]at hc;let hl:=iJ.1 hc;let hk:=λhc hf he=>hl.2.2 hc.1 he hc.1 (cw.2 ⟨hc,hf,J⟩) J;let hn:=λhc he=>v.c hc.1 hc.2 (j.a.b hc<|hb hc he)<|hk hc he;let hj:∀hc∈y.map (·.1),hc∈x\/z<=hc:=λhc hf=>by obtain⟨hc,he,rfl⟩:=cw.1 hf;exact j.b hc<|ha hc he
 refine⟨⟨λhe hg=>?_,?_⟩,λhc hm hf hi=>?_,λhe hg=>?_,j.d⟩;obtain hh|hh:=dl.1 hg;exact v.a.b he hh;exact hn he hh;rw[c2,iJ];refine⟨v.a.c,hl.2.1,λhp hh hq ho hn=>?_⟩;obtain⟨he,hg,rfl⟩:=cw.1 hh;obtain⟨hc,hf,rfl⟩:=cw.1 ho;obtain hh|hh:=v.b he hg;exact hk hc hf<|hn▸hh;have:=j.a.b hc<|hb hc hf;cases hd hc.1 L▸this;refine v.c hc hm (j.c hc hm hf hi)<|λhd=>?_;obtain ha|ha:=hj hc hd;exact hi ha;cases j.d hc ha▸hf;obtain ha|ha:=dl.1 hg;obtain hc|hc:=v.b he ha;exact hj _ hc;exact .inr L;exact j.b he<|hb he ha
end
section
variable{i:aD}{f:S Nat}{m:Nat}{s r:ap}{q:W Nat}{e p:bs}{t z:Nat}{y:W Nat}{w h:Nat->S P}{g c l:U}{o b:au}{k:W bz}{x:aX}{n:bR->aX->ap->Prop}{d:ek}{u:bR}
def O9{b d}(a:gO (g++c) h)(e:(b++d).Nodup):(((bp g b++c)++bp g d).map (·.1)).Nodup:=by
 let q:=a.e (λf s=>bS _ s) (by have:=a.c;exact(iJ.1 (c2▸this)).1);let l:=λn t o z u=>by have:=a.c;exact(iJ.1 (c2▸this)).2.2 n.1 (cw.2 ⟨n,t,J⟩) o.1 (cw.2 ⟨o,z,J⟩) u
 let r:(c.map (·.1)).Nodup:=by have:=a.c;exact(iJ.1 (c2▸this)).2.1
 let m:=BN q e;let y:bp g (b++d)=bp g b++bp g d:=by unfold bp;rw[aax]
 rw[y,c2]at m;let k:=iJ.1 m;rw[c2,c2,iJ,iJ];refine⟨⟨k.1,r,λx i m f u=>?_⟩,k.2.1,λx i p f u=>?_⟩;obtain⟨d,v,rfl⟩:=cw.1 i;obtain⟨j,a,rfl⟩:=cw.1 f;exact l d (it v) j a u;obtain j|j:=dl.1 i;exact k.2.2 x j p f u;obtain⟨e,w,rfl⟩:=cw.1 j;obtain⟨i,b,rfl⟩:=cw.1 f;exact l i (it b) e w u.symm
def afP{j f}{a:X->Nat->U->Prop}{y:W Nat}(d)(l:u=.normal\/u=.ret)(ha:fc i)(hb:tW o j.results.toList=Q f)(n:d.Nodup)(k:a (dL f) t (bp g d++c)):br m s q p z y w (gE (bt Z) 0 i j<|hP p z s q λv hh hg=>∃hd,a v hh hd/\bw y z w hd hg) u o [] t (g++c):=λx r⟨h,e,he,hp,hn,hm⟩=>by obtain⟨b,hk,hl⟩:=I1 t _ f hb;(have hs:bw y z w (bp g d++c) h:=by(have hj:∀hf∈bp g d++c,hf∈g++c:=λhf hc=>by obtain hc|hc:=dl.1 hc;(·exact bS _<|it hc);·exact bo _ hc);exact⟨he.a.e hj (by simpa[bp]using (O9 (d:=[]) he.a (by simpa using n))),he.c,λhf hc=>he.b hf<|hj hf hc,he.d⟩);have:=wN ha ⟨J,az,az,(λhq ht hi=>by cases hi),(λhq hr hi=>by cases hi)⟩ hk hl (a:=λv hh hg=>∃hd,a v hh hd/\bw y z w hd hg) (by rw[tV az];exists _,k) hp hn hm;obtain rfl|rfl:=l;(·exact this);·exact this
def EK(n:bR->aX->ap->Prop):bR->aX->ap->Prop:=λu x r=>n u x r/\∃a,u=pS a
def afk(a:di i f m s q p z y w (EK n) d o k t l):di i f m s q p z y w n d o k t l:=λh b e r x j g c=>ia (a h b e r x j g c) λ_ _ _ u=>u.1
def afj(a:di i f m s q p z y w (Exit.then ((Code.loop d).wpIn (bt f) 0 i<|EK n)<|EK n) d o k t l):di i f m s q p z y w (EK n) (.loop d) o k t l:=λh b e r x j g c=>W6 (λ_ _ _ u=>u.2)<|a h b e r x j g c
def afS{a}(c:u=pS a)(b:br m s q p z y w n u o k t l):br m s q p z y w (EK n) u o k t l:=λx r d=>⟨b x r d,a,c⟩
def afi{a}(c:mq o a)(b:di i f m s q p z y w n d a k t l):di i f m s q p z y w n d o k t l:=λh u e r x ha a g=>b h u e r x ha a ⟨⟨g.b.1,λj v hb=>g.b.2 j v<|c.a j v hb⟩,g.d⟩
def sw{b:Type}{g:b->au}{e:b->Nat}{c:b->U}(a)(j:mq o (g a))(u:e a=t)(r:c a=l)(h:di i f m s q p z y w n d (g a) k (e a) (c a)):di i f m s q p z y w n d o k t l:=by subst u;subst r;exact afi j h
def jh{b:Type}{c:b->Nat}{i:b->au}{f:b->Nat}{d:b->U}{g}(a)(hb:c a<c g)(j:mq o (i a))(ha:f a=t)(u:d a=l):br m s q p z y w (Exit.then (λx r=>∃a,c a<c g/\kA m s q p z y w (i a) k (f a) (d a) x r) n) .normal o k t l:=by subst ha;subst u;rintro x r⟨h,e,d,g,f,b⟩;exact⟨a,hb,h,e,d,g,f,⟨⟨b.b.1,λc v i=>b.b.2 c v<|j.a c v i⟩,b.d⟩⟩
end
def jq(a:W P):aA:=⟨Y a,(fX<|Y a).foldl (λc b=>vE 14 c b a[b]?) .a⟩
def aoP(b)(c:Y b<=1000)(a):(jq b).a a=b[a]?:=by
 let m:∀(g)(e)(d),d+g<=1000->∀a,sW ((qU d g).foldl (λe a=>vE 14 e a b[a]?) e) a=if d<=a/\a<d+g then b[a]? else sW e a:=λk=>by induction k with|zero=>intro q p _ a;rw[ak L];rfl|succ l j=>intro r f o a;rw[aaI,qS,j _ _ L,Jj 14 _ _ _ _ L];by_cases h:f+1<=a/\a<f+1+l;rw[aC h,aC L];rw[ak h];by_cases i:a=f;subst i;rw[aC J,aC L];rw[ak i,ak L]
 rw[aA.a,jq,List.range_eq_range',m _ _ _ L];by_cases n:a<Y b;rw[aC L];rw[ak L,ix L];rfl
def Bx(a:W Nat)(c:Nat)(b:W P):U:=(a.zip b).map λd=>(d.1,eR (bQ a c) d.2)
def EE(b:W Nat)(a:Nat)(c:aA):U:=(fX c.f).filterMap λd=>(c.a d).map λe=>(bQ b a d,eR (bQ b a) e)
def ajp{a f e}{c b:Nat}{d}(g:a[c]?=Q b)(h:e[c]?=Q d):(Bx a f e)[c]?=Q (b,eR (bQ a f) d):=by rw[Bx,cv,aaA (z:=(b,d))|>.2 ⟨g,h⟩];rfl
def Wu{a c b}(d:Y a=Y b):(Bx a c b).map (·.1)=a:=by rw[Bx,JZ];exact asO L
section
variable{u:aD}{t:cV}{s:W X}{v:X}{w:W P}{x:aA}{z:W Nat}{y:Nat}
def wU(b:jH u (.b t s<|jq w) (.b v x))(a:Y z=Y w)(c:Y w<=1000)(d:cY x.f 15000=K)(e:cY (Y w) x.f=K):c6 u t (eS (bQ z y) s) y (Bx z y w) λr i f=>r=dv (bQ z y) v/\i=y+(x.f-Y z)/\f=EE z y x:=by
 refine⟨b.1,λp o ha=>?_⟩;have g:=ez d;have hb:z.Nodup:=by have:=o.c;rwa[Wu a]at this
 have k:=aoP w c;have e:kW z y p (jq w):=by refine⟨by show Y w=_;omega,by rw[bi];omega,hb,λf n h=>?_,λf g h=>?_⟩;rw[k]at h;have l:f<Y z:=a▸(bc.1 h).1;have m:=e7 l;exact⟨_,m,o.a<|ajp m h⟩;have l:f<Y w:=a▸(bc.1 h).1;exact⟨_,by rw[k];exact e7 l⟩
 apply(V3 b e).a;rintro r i b⟨rfl,rfl,rfl⟩;exists _,⟨J,J,J⟩;rw[Wu a];have q:∀g,g∈z->g<y:=λg a=>by obtain i|i:=dy g y;exact i;let⟨f,h⟩:=iI.1 a;let⟨n,a⟩:=e.b f g h;let⟨r,o,k⟩:=e.a f n a;cases h▸o;cases ha g i▸k
 have c:∀f,f<x.f->(∃g,z[f]?=Q g/\bQ z y f=g)\/(Y z<=f/\bQ z y f=y+(f-Y z)):=λf h=>by obtain i|i:=dy f (Y z);exact .inl ⟨_,e7 i,zj<|e7 i⟩;refine .inr ⟨i,?_⟩;have:=Ox (y:=y) (z:=z) (by rw[bi];omega) (j:=f-Y z) (by rw[bi];omega);rwa[show Y z+(f-Y z)=f by omega]at this
 have hg:∀f j,f<x.f->j<x.f->bQ z y f=bQ z y j->f=j:=λf j h o b=>by obtain⟨g,k,m⟩|⟨k,m⟩:=c f h<;>obtain⟨r,d,e⟩|⟨d,e⟩:=c j o;rw[m,e]at b;subst b;exact(PX (bc.1 k).1 hb).1<|k▸d▸J;have:=q g<|bl k;omega;have:=q r<|bl d;omega;omega
 refine⟨⟨λhc r=>?_,?_⟩,λhd n e hf=>?_,λhc r=>?_,ha⟩;let⟨f,h,d⟩:=us.1 r;obtain⟨n,a,rfl⟩:=b3.1 d;have he:=pr.1 h;rw[gx];obtain⟨g,k,m⟩|⟨k,m⟩:=c f he;have p:=bl k;rw[m,aC p];have:z.idxOf g=f:=by have l:=JX p;(have he:z[z.idxOf g]?=Q g:=by rw[e7 l,JW]);exact(PX l hb).1<|he▸k▸J
 rw[this,a];rfl;rw[m,ak (λp=>by have:=q _ p;omega),ak L,aC L,show Y z+(y+(f-Y z)-y)=f by omega,a];rfl;have hh:∀q:W Nat,q.Nodup->(∀f∈q,f<x.f)->((q.filterMap λf=>(x.a f).map λn=>(bQ z y f,eR (bQ z y) n)).map (·.1)).Nodup:=λq=>by induction q with|nil=>intro _ _;simp|cons f q he=>intro q l;have hb:=he (gi.1 q).2<|λj o=>l j<|i3 _ o;rw[kO];rcases he:x.a f with _|n;simpa using hb;rw[dD,c4,gi];refine⟨λp=>?_,hb⟩;let⟨hc,r,b⟩:=cw.1 p;let⟨j,o,p⟩:=us.1 r;obtain⟨hc,hb,rfl⟩:=b3.1 p;have:=hg j f (l j<|i3 _ o) (l f<|hI ..) b;subst this;exact(gi.1 q).1 o
 exact hh _ List.nodup_range<|λf h=>pr.1 h;rw[gx,ak hf,aC];exact e;obtain i|i:=dy hd y;exact i;cases ha hd i▸e;let⟨f,h,d⟩:=us.1 r;obtain⟨n,a,rfl⟩:=b3.1 d;obtain⟨g,k,m⟩|⟨k,m⟩:=c f (pr.1 h);exact .inl<|m▸bl k;exact .inr (by omega)
end
def xn:S fe->X|Q (.b v _)=>v|_=>.c []
def vA:S fe->aA|Q (.b _ a)=>a|_=>⟨0,.a⟩
def Eo:S fe->aJ|Q (.b _ _)=>K|_=>N
def NB{a}(b:Eo a=K):a=Q (.b (xn a)<|vA a):=by unfold Eo at b;split at b;rfl;cases b
section
variable{z:aD}{n:Nat}{q:ap}{p:W Nat}{o:bs}{u t:Nat}{s:W Nat}{r:Nat->S P}{y:U}{x m:au}{w:bR}
def g4{c e}{a:X->Nat->U->Prop}{s}{hb b:Nat}{f}(d)(i:w=.normal\/w=.ret)(l:fc z)(j:y[hb]?=Q (b,f))(g:iD (bQ [b] u) x m)(ha:hX z m (cm<|a6 f) (aG c.results)=Q (bE e))(k:d.Nodup)(h:a (dL e) u (bp y d)):br n q p o t s r (gE (bt Z) 0 z c<|hP o t q p λv d e=>∃b,a v d b/\bw s t r b e) w x [] u y:=λhc hd⟨f,c,d,hb,e,b⟩=>by have:=wN l (rF<|d.a.a j) g ha (a:=λv g f=>∃c,a v g c/\bw s t r c f) (by rw[tV (by rw[bi];simp)];exact⟨_,h,d.f k⟩) hb e b;obtain rfl|rfl:=i;exact this;exact this
def L3{a d:U}{e c b}(y)(g:y.Perm (e::(a++d)))(f:br n q p o t s r c w x b u (a++(e::d))):br n q p o t s r c w x b u y:=λj z⟨i,h,k,v,m,l⟩=>f j z ⟨i,h,k.i<|g.trans xL.symm,v,m,l⟩
def c6.b{q p v o n j}(s)(r:c6 z q p u y (λx hb hd=>x=v/\hb=o/\hd=n))(w:s.Nodup)(t:bp n s=j):c6 z q p u y (λha hc he=>ha=v/\hc=o/\he=j):=by refine⟨r.1,λx o n=>(r.2 x o n).a ?_⟩;rintro n s q⟨r,⟨rfl,rfl,rfl⟩,p⟩;exact⟨j,bq,t▸p.f w⟩
def Xg(z:aD)(a:Nat):S (Nat×Nat×Nat×W X):=match z.underlying a with|Q (.slice w)=>(match z.info? w with|Q b=>(match b.zero with|Q c=>bif aw (aj c.cells) b.size&&cc 0 b.size then Q (w,b.size,b.bytes,c.cells.toList.map X.k)else Z|Z=>Z)|Z=>Z)|_=>Z
def yA{x f g i b c e h d l j k}(o:f.op=.makeSlice i j k)(p:iW (al x j)=Q b)(q:iW (al x k)=Q c)(a:Xg z i=Q (e,h,d,l))(m:b<=c)(n:c*(d+1)<=100000000000):qt z x dT g f=Q (.d g 0 b 0,.b e h b<|fz l b):=by
 rw[Xg]at a;split at a;rename_i c u;split at a;rename_i s t;split at a;rename_i b v;cases r:aw (aj b.cells) s.size&&cc 0 s.size with|false=>cases r▸a|true=>cases r▸a;rw[cQ]at r;rw[qt,dt,o];simp[p,q,HM,u,t,v,gU m,r.1,r.2,gU n,dh.a]
 cases a;cases a;cases a
end
section
variable{w:aD}{x:au}{u:ah}{t q:Nat}{s r:dW}{z y:ac}
def ey(a:u.op=.binOp .eql t s r q)(d:w.underlying t=Q .string)(b:al x s=Q (O z))(c:al x r=Q (O y)):eb w x dT u=Q (R<|aM z y):=by
 let e:gz x s=Q (.string z):=by rw[gz,b];rfl
 let f:gz x r=Q (.string y):=by rw[gz,c];rfl
 let h:aG u.op.operands=[s,r]:=by rw[a];rfl
 let i:jm w x dT u=ec dT (R<|aM z y):=by rw[jm,h,a];simp[e,f,b4];(have:gQ w (aY (λz=>(gz x z).getD ee) u)=Q (.value<|.bool<|aM z y):=by simp[aY,a];rw[e,f];show gQ w (do um Qh t s r (qO z) (qO y)Ku<$>eT Qh t (qO z) (qO y))=_;(let g:eT Qh t (qO z) (qO y)=pure (.bool<|aM z y):=by rw[eT,zP,CV]);rw[g];rfl);rw[this];rfl
 rw[eb,dt,a];simp[b,c,qy,MT,Be,BF,d,i,ec,dh.a]
def vu(a:u.op=.binOp .neq t s r q)(d:w.underlying t=Q .string)(b:al x s=Q (O z))(c:al x r=Q (O y)):eb w x dT u=Q (R<|!aM z y):=by
 let e:gz x s=Q (.string z):=by rw[gz,b];rfl
 let f:gz x r=Q (.string y):=by rw[gz,c];rfl
 let h:aG u.op.operands=[s,r]:=by rw[a];rfl
 let i:jm w x dT u=ec dT (R<|!aM z y):=by rw[jm,h,a];simp[e,f,b4];(have:gQ w (aY (λz=>(gz x z).getD ee) u)=Q (.value<|.bool<|!aM z y):=by simp[aY,a];rw[e,f];show gQ w (do um Qi t s r (qO z) (qO y)Ku<$>eT Qi t (qO z) (qO y))=_;(let g:eT Qi t (qO z) (qO y)=pure (.bool<|!aM z y):=by rw[eT,zP,CV]);rw[g];rfl);rw[this];rfl
 rw[eb,dt,a];simp[b,c,qy,MT,Be,BF,d,i,ec,dh.a]
end
structure T4 where
 d:List Nat
 c:Nat
 b:U
 a:List X
section
variable{t:aD}{m:Nat}{r:ap}{q:W Nat}{l p:bs}{s x:Nat}{w:W Nat}{u:Nat->S P}{o:au}{n:Nat}{v:X}{k:aX}{i:ap}
variable{z y:U}
def afM{f g}{b:X->Nat->U->Prop}{w d c}{n e:Nat}{h}(a)(hb:c=.normal\/c=.ret)(he:fc t)(hc:(z++y)[n]?=Q (e,h))(j:iD (bQ [e] s) o d)(hf:hX t d (cm<|a6 h) (aG f.results)=Q (bE g))(hd:a.Nodup)(ha:b (dL g) s (bp z a++y)):br m r q p x w u (gE (bt Z) 0 t f<|hP p x r q λv g e=>∃d,b v g d/\bw w x u d e) c o [] s (z++y):=λk i⟨h,l,c,hh,hg,d⟩=>by let e:=O9 (d:=[]) c.a (by simpa using hd);(let f:bw w x u (bp z a++y) h:=by(let f:∀g∈bp z a++y,g∈z++y:=λa h=>by obtain a|a:=dl.1 h;exact bS _<|it a;exact bo _ a);exact⟨c.a.e f (by simpa[bp]using e),c.c,λg a=>c.b g<|f g a,c.d⟩);have:=wN he (rF<|c.a.a hc) j hf (a:=λv a j=>∃e,b v a e/\bw w x u e j) (by rw[tV (by rw[bi];simp)];exists _,ha) hh hg d;obtain rfl|rfl:=hb;exact this;exact this
end
section
variable{u:aD}{m:Nat}{h:bv ah}{l s b:ap}{k:W Nat}{q i:bs}{x w:Nat}{t:W Nat}{r y:Nat->S P}{n:U}{o g:au}{f:W bz}{z:aX}{p:ah}{e:W ah}{d:bR->aX->ap->Prop}{c:bR}
def GI{g b he a c}(ha:bx o h p.guard=Q K)(v:p.op=.defer ⟨.value g,b,he⟩)(hc:aG b=[])(hb:al o g=Q (.f a [] c))(j:p.dst=Z)(hd:aH u Z m h l k i w t r d e o (.b a c::f) x n):aH u Z m h l k i w t r d (p::e) o f x n:=by
 intro y hf q s z hi hh he;simp[fA,ft he ha];existsλ_ _=>C;let⟨hk,g,ha,hj,hg⟩:=pc<|he.a hb;simp[bm]at ha;cases ha;let ha:b=#[]:=uy (xs:=b)▸hc▸J;let b:(p.semAt (bt Z).round z.eval).run u s=.ok (.defer {target:=.fn (.func a)<|E g,args:=#[]}) s:=by show(Oper.semAt Z z.eval p).run u s=_;rw[zQ];simp[aY,v,resolve,hg,vX,ha]
 rw[b];let b:b0 m {z with defers:={target:=.fn (.func a)<|E g,args:=#[]}::z.defers} o (.b a c::f) q:=⟨he.b,wM.2 ⟨_,_,by simp[jk,hj],he.d,J⟩⟩;let c:({z with defers:={target:=.fn (.func a)<|E g,args:=#[]}::z.defers}).put p.dst ee={z with defers:={target:=.fn (.func a)<|E g,args:=#[]}::z.defers}:=by rw[j];rfl
 show fA (bt Z) 0 u h d e (({z with defers:={target:=.fn (.func a)<|E g,args:=#[]}::z.defers}).put p.dst ee) s;rw[c];exact hd y hf q s _ hi hh b
def En{a b}(c)(d:c.Nodup):∀y,bw t w r (a++b) y->bw t w r (bp a c++b) y:=λy e=>by (let g:∀l∈bp a c++b,l∈a++b:=λm j=>by obtain f|f:=dl.1 j;exact bS _<|it f;exact bo _ f);exact⟨e.a.e g (by simpa[bp]using (O9 (d:=[]) e.a (by simpa using d))),e.c,λh k=>e.b h<|g h k,e.d⟩
def TW{hd he}{hb:X->Nat->U->Prop}{t hc p}{f d a j:Nat}{h hf}(hk:c=.normal\/c=.ret)(hn:fc u)(hj:wA u hc)(hl:hc p=K)(e:n[a]?=Q (f,h))(ha:n[j]?=Q (d,.a [bN]))(hm:a≠j)(hg:iD (bQ [f,d] x) o g)(ho:hX u g (fg (a6 h)<|.a [bN]) (aG hd.results)=Q (bE he))(hh:∀y,bw t w r n y->bw t w r hf y)(hi:hb (dL he) x hf):br m l k i w t r (gE (bt Z) 0 u hd<|hP i w l k λv hq hp=>∃hf,hb v hq hf/\bw t w r hf hp) c o [.b p [.a d 0]] x n:=λz s⟨y,q,hp,hq,hs,hr⟩=>by let hu:=hp.a.a ha;let ht:=hp.a.a e;let hv:=hp.a.f e ha hm;let hf:kW [f,d] x y (fg (a6 h)<|.a [bN]):=Eg ht hu hv;let hu:=hs.m hf;(let hv:li hc [.b p [.a 1 0]] (fg (a6 h)<|.a [bN])=Q ((fg (a6 h)<|.a [bN]).c 1<|Q<|.a [bN]):=by simp[li,hl,pO];rfl);(let ht:g7 (λa=>q<|bQ [f,d] x a) [.b p [.a 1 0]]=Q z.defers:=by rw[<-hr.d];rfl);(let hm:kP (bt Z) 0 u hd z.tmps (hP i w l k λv hl hc=>∃p,hb v hl p/\bw t w r p hc) z.defers .returning s:=by refine xb hn hj _ hv hu ht λb p=>?_;(let hb:∀a,((fg (a6 h)<|.a [bN]).c 1<|Q<|.a [bN]).a a=(fg (a6 h)<|.a [bN]).a a:=λa=>by rw[aA.b _ (by rw[bi];omega),pO];by_cases hc:a=1;rw[aC hc,aC hc];rw[ak hc]);(let hj:aZ s (tJ q [f,d]) (λa=>q<|bQ [f,d] x a) (fg (a6 h)<|.a [bN]) b:=by refine⟨p.c,p.i,λa e=>⟨(p.d a e).1,by exact(p.d a e).2⟩,λa hl e=>p.b a hl (by exact e),λa j hn ht hc hd e ha=>p.a a j hn ht hc hd (by rw[hb];exact e) (by rw[hb];exact ha)⟩);let⟨hn,hd,ht,ha,p⟩:=hs.l hf hj<|fo.b _ _;let ha:x+((fg (a6 h)<|.a [bN]).f-Y [f,d])=x:=rfl;(let hu:gx [f,d] x y (fg (a6 h)<|.a [bN])=y:=by funext h;rw[gx];by_cases ha:h∈[f,d];rw[aC ha];let hb:=JX ha;(let hc:[f,d][vK h [f,d]]?=Q h:=by rw[e7 hb,JW]);let⟨hw,hl⟩:=hf.b _ h hc;let⟨hx,hb,hs⟩:=hf.a _ hw hl;cases hc▸hb;rw[hl,hs];rfl;rw[ak ha];by_cases ha:h<x;rw[aC ha];rw[ak ha,ak (by rw[hf.f];omega),(λa e=>(hs.a a e).2) h L]);rw[hu]at p;(let ha:Y ([f,d])<=bi:=by rw[bi];simp);let h:iS (λa=>q<|bQ [f,d] x a) g m z.tmps:=⟨hr.b.1,λa v d=>by let⟨hb,f,hc⟩:=hr.b.2 a _<|hg.a a v d;exists hb,by rw[qv];exact f⟩;let⟨f,d,hb⟩:=BY hj h ho;refine⟨f,hb,dL he,x,y,f,hn,⟨_,hi,hh y hp⟩,J,⟨hq.b.a hd,hq.d,λa e=>?_⟩,?_,p⟩;rw[ht a<|mN e hq.d];exact hq.e a e;rw[qv,tV ha]at d;exact l6 hd _ _ d);obtain rfl|rfl:=hk;exact hm;exact hm
end
section
variable{y:aD}{p1:S Nat}{r:Nat}{m:bv ah}{i p:ap}{h:W Nat}{f e:bs}{q d:Nat}{c:W Nat}{b l:Nat->S P}{u s k p0:U}{x p3:au}{g:W bz}{o:aX}{w:ah}{p2:W ah}{a:bR->aX->ap->Prop}{t n:ek}{z:bR}
def IQ(u s):bp (u++s) (qU (Y u)<|Y s)=s:=by induction s generalizing u with|nil=>rfl|cons b e d=>(let c:(u++b::e)[(Y u)]?=Q b:=by rw[md<|bd _,zE];rfl);let a:=d<|u++[b];simp[se]at a;rw[bp]at a⊢;rw[de,aaI,kO,c];simp;rw[a]
def Oc(k)(a b):bp k (a++b)=bp k a++bp k b:=by unfold bp;rw[aax]
def NT{a b e}(c:a.Nodup)(d:a.all (λi=>cc i b)=K):(a++qU b e).Nodup:=by rw[iJ];refine⟨c,P1,λo g j h z=>?_⟩;let f:=lR.1 d o g;rw[Nat.blt_eq]at f;let k:=(asR.1 h).1;omega
def afr{v hh hb z k he t n hc hd l hi h3 ha f j:Nat}{o hf p hg}(p0:U)(hx:fH y z=Q (k,he))(hy:ei y hb=Q z)(hz:bx x m w.guard=Q K)(hu:w.op=.call ⟨.builtin .append,#[.tmp t,.tmp n],#[hb,hb]⟩)(h0:aO x t=Q (.d hc 0 l 0))(h2:aO x n=Q (.d hd ha f j))(h1:aw t n=N)(hm:(u++s)[v]?=Q (hc,.b z k hi hf))(hn:(u++s)[hh]?=Q (hd,.b z k h3 p))(hs:(v::o).Nodup)(ht:(v::o).all (λh5=>cc h5<|Y u)=K)(ho:aw v hh=N)(hp:l<=hi)(hq:Y (aR p ha<|f*k)=f*k)(hv:(aR p ha<|f*k).all aB=K)(hk:(l+f)*(he+1)<=100000000000)(hr:0<f)(hw:bP r x w.dst (.d q 0 (l+f) 0)=Q p3)(hl:hf.take (l*k)++aR p ha (f*k)=hg)(hj:(q,.b z k (l+f) hg)::(bp (u++s) o++s)=p0)(h4:aH y p1 r m i h e d c b a p2 p3 g (q+1) p0):aH y p1 r m i h e d c b a (w::p2) x g q (u++s):=by subst hl;subst hj;refine TG (ho:=o++qU (Y u) (Y s)) hx hy hz hu h0 h2 h1 hm hn ?_ ho hp hq hv hk hr hw ?_;exact NT hs ht;rwa[Oc,IQ]
def afq{hu v z k hb t n ha hv o f j:Nat}{l hc}(p)(p0)(ho:fH y z=Q (k,hb))(hp:ei y v=Q z)(hq:bx x m w.guard=Q K)(hl:w.op=.call ⟨.builtin .append,#[.tmp t,.tmp n],#[v,v]⟩)(hr:aO x t=Q (ab))(ht:aO x n=Q (.d ha o f j))(hs:aw n t=N)(hg:(u++s)[hu]?=Q (ha,.b z k hv l))(hi:Y (aR l o<|f*k)=f*k)(hm:(aR l o<|f*k).all aB=K)(he:f*(hb+1)<=100000000000)(hj:0<f)(hn:bP r x w.dst (.d q 0 f 0)=Q p3)(hf:aR l o (f*k)=hc)(hh:(0::p).Nodup)(hk:(0::p).all (λhx=>cc hx<|Y u+1)=K)(hd:bp ((q,.b z k f hc)::(u++s)) (0::p)++s=p0)(hw:aH y p1 r m i h e d c b a p2 p3 g (q+1) p0):aH y p1 r m i h e d c b a (w::p2) x g q (u++s):=by subst hf;subst hd;refine DC ho hp hq hl hr ht hs hg hi hm he hj hn<|uY (a:=(0::p)++qU (Y u+1) (Y s)) (NT hh hk) ?_;rw[Oc];have:=IQ ((q,P.b z k f<|aR l o<|f*k)::u) s;rw[de,CB]at this;rwa[this]
def afU(j:∀v∈p0,v∈k)(n:∀l,gO k l->(p0.map (·.1)).Nodup)(m:br r i h e d c b a z x g q p0):br r i h e d c b a z x g q k:=λo p⟨l,f,s,w⟩=>m o p ⟨l,f,⟨s.a.e j<|n l s.a,s.c,λt u=>s.b t<|j t u,s.d⟩,w⟩
def GJ{s:Type}(n:s->X)(j:s->au)(ha:bx x m w.guard=Q K)(u:∀hd,w.op≠.defer hd)(z:∀l,gO k l->∀f p o,cR i h f q l p->b0 r o x g f->∃he t,(aY o.eval w).run y p=.ok (.value t) p/\aT f (n he)=Q t)(v:∀hc,bP r x w.dst (n hc)=Q (j hc))(hb:∀hc,aH y p1 r m i h e d c b a p2 (j hc) g q k):aH y p1 r m i h e d c b a (w::p2) x g q k:=λl n f p o hd s j=>by simp[fA,ft j ha];existsλ_ _=>C;rw[fC _ _ _ u];let⟨u,t,hc,ha⟩:=z l n.a f p o s j;rw[hc];exact hb u l n f p (o.put w.dst t) hd s<|gD j ha<|v u
def aoA{f z e a d c:Nat}{b m t n}(h:w.op=.slice f t (Q n) Z Z)(j:y.underlying f=Q (.slice z))(i:fI y z=Q e)(k:o.eval t=.slice (Q b) d c)(l:o.eval n=.int m (.ofNat a))(g:a<=d):(aY o.eval w).run y p=.ok (.value<|.slice (if c=a then Q b else Q (b.add<|a*e)) (d-a)<|c-a) p:=by simp[aY,h,k,l,Instr.sliceAt,cE j,hF,Instr.slice,Instr.sliceBounds,jt,Instr.sliceBound,asIntOf];simp[g,mH i p]
def Cb{b z}(a:ei y b=Q z):y.underlying b=Q (.slice z):=by rw[ei]at a;split at a;rename_i d c;cases a;exact c;cases a
def O7{z b}(a:qI y z b=K):fI y z=Q b:=by rw[qI]at a;cases c:fI y z with|none=>cases c▸a|some r=>rw[c]at a;rw[b8 a]
def afz{ha z hl hb hk v j:Nat}{hj t n}{s:S Addr×Nat->au}(hf:bx x m w.guard=Q K)(u:w.op=.slice ha t (Q n) Z Z)(he:ei y ha=Q z)(hd:qI y z hl=K)(hg:al x t=Q (.d hb hk v j))(hh:al x n=Q (.k<|.int hj<|.ofNat v))(hc:∀hm:S Addr×Nat,bP r x w.dst (.k<|.slice hm.1 0 hm.2)=Q (s hm))(hi:∀hn,aH y p1 r m i h e d c b a p2 (s hn) g q k):aH y p1 r m i h e d c b a (w::p2) x g q k:=by refine GJ (λv=>.k<|.slice v.1 0 v.2) s hf (λha z=>by cases u▸z) (λl v f p o ha s=>?_) hc hi;let⟨hb,ha,v⟩:=iU<|s.a hg;have:=aoA (p:=p) u (Cb he) (O7 hd) v (eh<|s.a hh)<|bd _;rw[zE]at this;exact⟨(_,_),_,this,J⟩
end
section
variable{f:aD}{e:S Nat}{z:Nat}{y q b:ap}{x:W Nat}{n w:bs}{m u:Nat}{t:W Nat}{s p:Nat->S P}{d i h c:U}{l:au}{r:W bz}{o:aX}{k:bR->aX->ap->Prop}{a p0:ek}{g:bR}
def TC{c:Type}(j:c->au)(i:c->Nat)(d:c->U)(ha:∀hb,di f e z y x w u t s k p0 (j hb) r (i hb) (d hb))(v:di f e z y x w u t s (Exit.then (λo q=>∃hb,kA z y x w u t s (j hb) r (i hb) (d hb) o q) k) a l r m h):di f e z y x w u t s k (.seq a p0) l r m h:=by refine g2 λp i n q o j d c=>ia (v p i n q o j d c) ?_;intro g d b c;cases g with|normal=>let⟨hc,p,n,j,hb,i,v⟩:=c;exact ha hc p j n b d hb i v|_=>exact c
def DH{b:Type}{e:b->au}{d:b->Nat}{c:b->U}(a:b)(f:mq l (e a))(i:d a=m)(g:c a=h):br z y x w u t s (Exit.then (λo q=>∃a,kA z y x w u t s (e a) r (d a) (c a) o q) k) .normal l r m h:=by subst i;subst g;rintro o q⟨p,n,c,e,d,j⟩;exact⟨a,p,n,c,e,d,⟨⟨j.b.1,λb v g=>j.b.2 b v<|f.a b v g⟩,j.d⟩⟩
def L2{a}(c:U)(h:a.Nodup)(f:a.all (λq=>cc q<|Y d)=K)(e:bp (d++i) a++i=c)(b:br z y x w u t s k g l r m c):br z y x w u t s k g l r m (d++i):=by subst e;refine afU (λv o=>?_) (λp n=>?_) b;obtain j|j:=dl.1 o;exact it j;exact bo _ j;have:=BN n<|NT (e:=Y i) h f;rwa[Oc,IQ]at this
end
structure ru where
 b:au
 e:Nat
 c:U
 d:List (Nat×Nat)
 a:List Nat
def Oz(a:Nat):P->aJ|.a b=>cY a (Y b)|.b _ _ _ c=>cY a (Y c)|_=>N
def anH{a}:∀{b},Oz a b=K->pj a b|.a _,c=>ez c|.b _ _ _ _,d=>ez d|.c _,e=>by cases e|.d _ _,f=>by cases f|.g _ _ _ _ _ _ _,g=>by cases g|.f,h=>by cases h|.l _,i=>by cases i|.k _ _ _,j=>by cases j|.i _,k=>by cases k|.h _ _ _,l=>by cases l|.e _ _ _ _ _ _ _ _,m=>by cases m
def vB:U->Nat->P->U|[],_,_=>[]|(a,_)::d,0,f=>(a,f)::d|c::e,b+1,g=>c::vB e b g
def YN:∀{a b d m}(h),a[b]?=Q (d,m)->vB a b h=a.set b (d,h)|[],q,n,s,v,j=>by cases j|(p,_)::r,0,o,t,w,k=>by cases k;rfl|f::g,e+1,i,u,c,l=>by show f::vB g e c=f::g.set e (i,c);rw[YN c (by simpa using l)]
def Yi(b:aD)(d e f:Nat)(c:S Nat)(a:ru):S ru:=match aO a.b f,a.a with|Q (.a h m),k::l=>(match jN a.c k with|Q (i,n)=>(match fT n with|Q j=>(match tP b e m j with|Q v=>(bP d a.b c v).map λg=>⟨g,a.e,a.c,(h,i)::a.d,l⟩|Z=>Z)|Z=>Z)|Z=>Z)|_,_=>Z
def Yk(b:aD)(d:Nat)(e f:dW)(c:S Nat)(a:ru):S ru:=match al a.b e,al a.b f,a.a with|Q (.a l j),Q v,h::n=>(match jN a.c h with|Q (m,k)=>(match fI b d,mI v with|Q i,Q g=>bif aw (Y g) i&&g.all aB&&Oz (j+i) k&&c.isNone then Q ⟨a.b,a.e,vB a.c h<|BT j g k,(l,m)::a.d,n⟩else Z|_,_=>Z)|Z=>Z)|_,_,_=>Z
def Yj(c:aD)(d:Nat)(b:ah)(a:ru):S ru:=match eb c a.b dT b with|Q v=>(bP d a.b b.dst v).map λe=>⟨e,a.e,a.c,a.d,a.a⟩|Z=>(match qt c a.b dT a.e b with|Q (v,g)=>(bP d a.b b.dst v).map λf=>⟨f,a.e+1,(a.e,g)::a.c,a.d,a.a⟩|Z=>Z)
def Jd(c:aD)(d:Nat)(e:bv ah)(b:ah)(a:ru):S ru:=match bx a.b e b.guard with|Q N=>(bP d a.b b.dst<|.c []).map λf=>⟨f,a.e,a.c,a.d,a.a⟩|Q K=>(match b.op with|.load g (.tmp i)=>Yi c d g i b.dst a|.store h j k=>Yk c h j k b.dst a|_=>Yj c d b a)|Z=>Z
def tY(a:aD)(c:Nat)(b:bv ah):W ah->ru->S ru|[],f=>Q f|d::e,g=>(match Jd a c b d g with|Q h=>tY a c b e h|Z=>Z)
section
variable{x:aD}{r:S Nat}{w:Nat}{u:bv ah}{q d:ap}{p:W Nat}{c o:bs}{t n:Nat}{m:W Nat}{l b:Nat->S P}{s e:U}{z g:au}{k:W bz}{a:aX}{y:ah}{i:W ah}{h:bR->aX->ap->Prop}{p0 p1:ek}{f:bR}
def WV{f d c b v}(e:fT c=Q b)(a:tP x f d b=Q v):hB x (cm<|a6 c) f (Q<|.a 0 d)=Q (dd v):=by
 rw[tP]at a;split at a;rename_i h j l;cases g:aw (Y<|aR b d h) h with|false=>cases g▸a|true=>cases g▸a;exact xa j l e<|b8 g
 rename_i k;rw[xf]at a;let i:((cm<|a6 c).a 0).bind fT=Q (bE b):=by cases c<;>cases e<;>rfl
 simp[hB,i,tP,k];rw[xf,OR,a];rfl;cases a
def IY{z g b v}(a:bP w z b v=Q g){j}(c:b≠Q j):aO g j=aO z j:=by unfold bP at a;cases b with|none=>cases a;rfl|some b=>simp at a;cases d:cc b w with|false=>cases d▸a|true=>cases d▸a;rw[cT];cases e:aw j b;rfl;exact aE (b8 e▸J) c
def Y7{c d}(a:Jd x w u y c=Q d)(b:∀e∈d.d,e.1=e.2):(∀ha∈c.d,ha.1=ha.2)/\(∀j,y.dst≠Q j->aO d.b j=aO c.b j)/\(aH x r w u q p o n m l h i d.b k d.e d.c->aH x r w u q p o n m l h (y::i) c.b k c.e c.c):=by
 let⟨z,t,s,d,e⟩:=c;rw[Jd]at a;split at a;rename_i e;obtain⟨g,d,rfl⟩:=b3.1 a;exact⟨b,λj c=>IY d c,λha=>afG e d ha⟩;rename_i d;split at a;rename_i e c hd;rw[Yi]at a;split at a;rename_i ha hc e hb hf c;split at a;rename_i hb c e;split at a;rename_i c hc;split at a;rename_i v he;obtain⟨g,c,rfl⟩:=b3.1 a;have f:ha=hb:=b _ hI;subst f;rw[xf]at e;exact⟨λhb c=>b hb<|i3 _ c,λj ha=>IY c ha,λhb=>mo d hd hf e (WV hc he) c hb⟩;cases a;cases a;cases a;cases a;rename_i c p0 p1 hh;rw[Yk]at a;split at a;rename_i hc he v c ha hj hk e;split at a;rename_i hd hf c;split at a;rename_i hb ha hi hg;cases e:(aw (Y ha) hb&&ha.all aB&&Oz (he+hb) hf&&y.dst.isNone)with|false=>cases e▸a|true=>cases e▸a;simp only[cQ]at e;let⟨⟨⟨hb,he⟩,hf⟩,ha⟩:=e;have f:hc=hd:=b _ hI;subst f;rw[xf]at c;(have e:y.dst=Z:=by cases hc:y.dst with|none=>rfl|some hd=>cases hc▸ha);refine⟨λhc ha=>b hc<|i3 _ ha,λj hd=>rfl,λha=>TQ d hh e hj hk c hi hg (b8 hb) he (anH hf) ?_⟩;rwa[<-YN _ c]
 cases a;cases a;cases a;rw[Yj]at a;split at a;rename_i v ha;obtain⟨g,e,rfl⟩:=b3.1 a;exact⟨b,λj c=>IY e c,λhb=>dZ d ha e hb⟩;split at a;rename_i v c ha;obtain⟨g,c,rfl⟩:=b3.1 a;exact⟨b,λj e=>IY c e,λb=>iC d ha c b⟩;cases a;cases a
def Yy:∀{d a b},tY x w u d a=Q b->(∀f∈b.d,f.1=f.2)->(∀g∈a.d,g.1=g.2)/\(∀j,(∀y∈d,y.dst≠Q j)->aO b.b j=aO a.b j)/\(aH x r w u q p o n m l h i b.b k b.e b.c->aH x r w u q p o n m l h (d++i) a.b k a.e a.c)|[],v,a,c,e=>by cases c;exact⟨e,λ_ _=>rfl,id⟩|y::t,z,b,c,f=>by rw[tY]at c;split at c;rename_i e d;obtain⟨s,t,v⟩:=Yy c f;obtain⟨z,a,b⟩:=Y7 d s;exact⟨z,λj e=>(t j<|λy g=>e y<|i3 _ g).trans<|a j<|e y hI,λs=>b<|v s⟩;cases c
def TL(f:∀y v,aO g y=Q v->aO z y=Q v)(e:aH x r w u q p o n m l h i g k t s):aH x r w u q p o n m l h i z k t s:=λb ha c d a hc hb j=>e b ha c d a hc hb ⟨⟨j.b.1,λy v hd=>j.b.2 y v<|f y v hd⟩,j.d⟩
def Pt(a:W ah)(j:Nat):aJ:=a.any λy=>match y.dst with|Q b=>aw b j|Z=>N
def qu:au->W Nat->au|z,[]=>z|z,a::c=>qu (z.filter λb=>!(aw b.1 a)) c
def Hi(z:au)(a:W ah)(b:W Nat):aJ:=z.all λc=>!(Pt a c.1)||b.any λj=>aw c.1 j
def aqb{a j}(b:Pt a j=N):∀y∈a,y.dst≠Q j:=λy c f=>by have:=CA.1 b y c;rw[f]at this;simp at this
def It:∀{z j v},aO z j=Q v->(j,v)∈z|[],j,v,c=>by cases c|(d,f)::e,j,v,a=>by rw[cT]at a;cases b:aw j d with|true=>cases b▸a;rw[b8 b];exact hI|false=>rw[b]at a;exact i3 _<|It a
def NK{a:Nat}:∀{z j v},aO (z.filter λl=>!(aw l.1 a)) j=Q v->aO z j=Q v|[],j,v,i=>by cases i|(e,n)::m,j,v,b=>by rw[i2]at b;rw[cT];cases d:aw e a with|true=>rw[d]at b;simp[gV]at b;(cases k:aw j e;exact NK b;let g:=b8 k;let h:=b8 d;have:=It b;rw[pq]at this;let c:=this.2;simp only at c;rw[g,h,cF]at c;cases c)|false=>rw[d]at b;simp[jy]at b;rw[cT]at b;cases f:aw j e with|true=>rwa[f]at b|false=>exact NK (f▸b)
def W5:∀{a z j v},aO (qu z a) j=Q v->aO z j=Q v|[],z,j,v,b=>b|d::e,z,j,v,c=>NK (W5 c)
def W3:∀{b e j v},aO (b++e) j=Q v->((b.map (·.1)).any λg=>aw j g)=K->aO b j=Q v|[],i,j,v,l,f=>by cases f|(h,n)::m,k,j,v,a,d=>by rw[CB,cT]at a;rw[cT];cases c:aw j h;rw[c]at a;rw[c4,xF,c,xV]at d;exact W3 a d;rwa[c]at a
def W4:∀{b c j v},aO (b++c) j=Q v->aO b j=Q v\/aO c j=Q v|[],g,j,v,e=>.inr e|(f,k)::i,h,j,v,a=>by rw[CB,cT]at a;rw[cT];cases d:aw j f;rw[d]at a;exact W4 a;rw[d]at a;exact .inl a
def NL{a}:∀{c},(c.map (·.1)).map (aO a)=c.map (λh=>Q h.2)->∀j v,aO c j=Q v->aO a j=Q v|[],_,j,v,f=>by cases f|(g,k)::i,e,j,v,b=>by simp only[c4,zz]at e;rw[cT]at b;cases d:aw j g with|true=>cases d▸b;rw[b8 d];exact e.1|false=>rw[d]at b;exact NL e.2 j v b
def ajQ{b a}{c:W ah}{d}(e:(a.map (·.1)).map (aO b)=a.map (λm=>Q m.2))(f:∀j,(∀y∈c,y.dst≠Q j)->aO b j=aO z j)(g:Hi (qu z d) c (a.map (·.1))=K):∀j v,aO (a++qu z d) j=Q v->aO b j=Q v:=λj v l=>by obtain h|h:=W4 l;exact NL e j v h;let i:=lR.1 g _<|It h;cases k:Pt c j with|false=>rw[f j<|aqb k];exact W5 h|true=>rw[k,xW,xV]at i;exact NL e j v<|W3 l i
def IL(a:S ru)(b:W Nat):S (W (S X)×Nat×U×W Nat):=a.map λc=>(b.map<|aO c.b,c.e,c.c,c.d.map (·.1))
def Jb(a:S ru):W Nat:=match a with|Q b=>b.d.map (·.2)|Z=>[]
def I7:∀{i:W (Nat×Nat)},i.map (·.1)=i.map (·.2)->∀b∈i,b.1=b.2|[],_,g,c=>by cases c|h::j,a,f,d=>by simp only[c4,zz]at a;obtain rfl|e:=cB.1 d;exact a.1;exact I7 a.2 f e
def TP{a}(c)(f)(d)(i)(g)(e)(v:aH x r w u q p o n m l h (a.drop c) (d++qu z i) k g e)(b:IL (tY x w u (a.take c) ⟨z,t,s,[],f⟩) (d.map (·.1))=Q (d.map<|λy=>Q y.2,g,e,Jb<|tY x w u (a.take c) ⟨z,t,s,[],f⟩):=by kernel_rfl)(j:Hi (qu z i) (a.take c) (d.map (·.1))=K:=by kernel_rfl):aH x r w u q p o n m l h a z k t s:=by cases y:tY x w u (a.take c) ⟨z,t,s,[],f⟩with|none=>rw[y]at b;cases b|some i=>rw[y]at b;simp only[IL,Jb,dD,hJ,xQ]at b;let⟨c,d,f,g⟩:=b;obtain⟨-,b,a⟩:=Yy y<|I7 g;rw[mL]at a;apply a;rw[d,f];exact TL (ajQ c b j) v
def aq{c}(b)(e)(a)(d)(i:aH x r w u q p o n m l h (c.drop b) (a++qu z d) k t s)(f:IL (tY x w u (c.take b) ⟨z,t,s,[],e⟩) (a.map (·.1))=Q (a.map<|λj=>Q j.2,t,s,Jb<|tY x w u (c.take b) ⟨z,t,s,[],e⟩):=by kernel_rfl)(g:Hi (qu z d) (c.take b) (a.map (·.1))=K:=by kernel_rfl):aH x r w u q p o n m l h c z k t s:=TP b e a d t s i f g
end
def Ot(d:aD)(e:U)(f:bv ah)(a:au)(c:ah)(b:W Nat):S (X×W (Nat×Nat)×W Nat):=match bx a f c.guard with|Q N=>Q (.c [],[],b)|Q K=>(match c.op with|.load n (.tmp o)=>(match aO a o,b with|Q (.a g l),j::k=>(match jN e j with|Q (h,m)=>(match fT m with|Q i=>(match tP d n l i with|Q v=>Q (v,[(g,h)],k)|Z=>Z)|Z=>Z)|Z=>Z)|_,_=>Z)|_=>(match eb d a dT c with|Q v=>Q (v,[],b)|Z=>Z))|Z=>Z
section
variable{y:aD}{m:S Nat}{u:Nat}{i:bv ah}{t a:ap}{s:W Nat}{p0 r:bs}{x p:Nat}{o:W Nat}{q b:Nat->S P}{z:U}{w p1 c p2:au}{h:W bz}{d:aX}{f:ah}{l:W ah}{n:bR->aX->ap->Prop}{e g:ek}{k:bR}
def ane{e g v c}(a:Ot y z i p2 f e=Q (v,c,g))(d:∀l∈c,l.1=l.2):∀b,gO z b->pD y u x b i f ⟨p2,v⟩:=λb o=>by rw[Ot]at a;split at a;rename_i t;cases a;exact anf t;rename_i j;split at a;rename_i m n q;split at a;rename_i m h e g w;split at a;rename_i n l h;split at a;rename_i c p;split at a;rename_i s r;cases a;have k:m=n:=d _ hI;subst k;rw[xf]at h;exact bL j q w (o.a h)<|WV p r;cases a;cases a;cases a;cases a;split at a;rename_i d s;cases a;exact b6 j s;cases a;cases a
def cS:U->W Nat->U|z,[]=>z|z,a::b=>cS (z.eraseIdx a) b
def X4{a}:∀{b z},(∀j∈b,a>j)->bp (z.eraseIdx a) b=bp z b|[],z,_=>rfl|j::g,z,c=>by let d:=X4 (z:=z)<|λf e=>c f<|i3 _ e;unfold bp at d⊢;rw[kO,kO,List.getElem?_eraseIdx_of_lt<|c j hI,d]
def Ec:∀{z:U}{a b},z[a]?=Q b->z.Perm (b::z.eraseIdx a)|[],g,i,c=>by cases c|l::m,0,j,d=>by cases d;exact go _|f::n,h+1,k,e=>((Ec (by simpa using e)).cons f).trans (JR _ _ _)
def tU:∀(b)(z:U),b.Pairwise (·>·)->z.Perm (bp z b++cS z b)|[],z,_=>go _|a::e,z,c=>by rw[P2]at c;let d:=tU e (z.eraseIdx a) c.2;rw[X4 c.1]at d;show z.Perm (bp z (a::e)++cS (z.eraseIdx a) e);rw[bp,kO];rcases f:z[a]?with _|g;let:=List.eraseIdx_of_length_le<|JU.1 f;rw[this]at d;simp only;rwa[this];exact(Ec f).trans<|d.cons _
def vw{b a}(c:a.Perm b):(bp z a).Perm (bp z b):=c.filterMap _
def sy{hd hh hg hp hf g he v hc hb}(ha j)(hj:fc y)(hl:bx w i f.guard=Q K)(hk:f.op=.call ⟨.value hh,hg,hp⟩)(hm:al w hh=Q (.f hd hf g))(hn:jQ w (aG hg)=Q he)(hi:c6 y hd (hf++he++g) x (bp z ha) (λd hq g=>d=v/\hq=hc/\g=hb))(e:bP u w f.dst v=Q c)(ho:aH y m u i t s r p o q n l c h hc (hb++cS z j))(k:j.Perm ha/\j.Pairwise (·>·)/\ha.Nodup:=by decide):aH y m u i t s r p o q n (f::l) w h x z:=λb g p0 a d hd hb he=>by let ha:=λhf hc=>(hb.a hf hc).2;let hc:=(tU j z k.2.1).trans<|(vw k.1).append_right _;let hf:=(hc.map _).nodup_iff.1 g.a.c;refine ae5 hj hl hk hm hn (hi.2 b (g.a.d k.2.2) ha) ?_ p0 a d hd hb he;rintro hg he j⟨hb,⟨rfl,rfl,rfl⟩,k⟩;exact⟨c,e,ho j<|bw.e g hd.d ha (λhb e=>it e) (λg e=>hc.mem_iff.2<|bo _ e) hf k⟩
def yH:U->W (Nat×P)->U|z,[]=>z|z,a::b=>yH (vB z a.1 a.2) b
def e2{c}(b)(f)(a)(e)(d)(j)(g)(v:aH y m u i t s r p o q n (c.drop b) (a++qu w e) h d (j++yH z g))(k:IL (tY y u i (c.take b) ⟨w,x,z,[],f⟩) (a.map (·.1))=Q (a.map<|λha=>Q ha.2,d,j++yH z g,Jb<|tY y u i (c.take b) ⟨w,x,z,[],f⟩):=by kernel_rfl)(l:Hi (qu w e) (c.take b) (a.map (·.1))=K:=by kernel_rfl):aH y m u i t s r p o q n c w h x z:=TP b f a e d _ v k l
def ED(a:S (W (X×X)×W (Nat×Nat))):S (W X×W Nat):=a.map λb=>(b.1.map (·.1),b.2.map (·.1))
def EW(a:S (W (X×X)×W (Nat×Nat))):W X×W Nat:=match a with|Q b=>(b.1.map (·.2),b.2.map (·.2))|Z=>([],[])
def YC:∀{l:W (X×X)},l.map (·.1)=l.map (·.2)->∀b∈l,b.1=b.2|[],_,g,c=>by cases c|h::i,a,f,d=>by simp only[c4,zz]at a;obtain rfl|e:=cB.1 d;exact a.1;exact YC a.2 f e
def AM{c d}{b:X->Nat->U->Prop}{o}(e)(a)(g:k=.normal\/k=.ret)(i:fc y)(j:tW w (aG c.results)=Q d)(f:b (dL d) x (bp (z.take e) a++z.drop e))(h:a.Nodup:=by decide):br u t s r p o q (gE (bt Z) 0 y c<|hP r p t s λv n m=>∃l,b v n l/\bw o p q l m) k w [] x z:=by have:=afP (m:=u) (s:=t) (q:=s) (p:=r) (z:=p) (w:=q) (y:=o) a g i j h f;rwa[mL]at this
def qm{d e}{b:X->Nat->U->Prop}{o:W Nat}{ha c:Nat}{g:P}(f)(a)(j:k=.normal\/k=.ret)(m:fc y)(hb:z[ha]?=Q (c,g))(h:iD (bQ [c] x) w p1)(n:hX y p1 (cm<|a6 g) (aG d.results)=Q (bE e))(i:b (dL e) x (bp (z.take f) a++z.drop f))(l:a.Nodup:=by decide):br u t s r p o q (gE (bt Z) 0 y d<|hP r p t s λv f e=>∃c,b v f c/\bw o p q c e) k w [] x z:=by have:=afM (m:=u) (r:=t) (q:=s) (p:=r) (x:=p) (u:=q) (w:=o) a j m (by rwa[mL]) h n l i;rwa[mL]at this
def AI{hb hl hf k b hi e g hg hh v hm h6 hc a j:Nat}{hd hj ha hk}(he:Nat)(h0:fH y k=Q (b,hi))(h1:ei y hf=Q k)(h2:bx w i f.guard=Q K)(hx:f.op=.call ⟨.builtin .append,#[.tmp e,.tmp g],#[hf,hf]⟩)(h3:aO w e=Q (.d hg 0 v 0))(h5:aO w g=Q (.d hh hc a j))(h4:aw e g=N)(hp:z[hb]?=Q (hg,.b k b hm hj))(hq:z[hl]?=Q (hh,.b k b h6 ha))(hv:(hb::hd).Nodup)(hw:(hb::hd).all (λd=>cc d<|Y<|z.take he)=K)(hr:aw hb hl=N)(hs:v<=hm)(ht:Y (aR ha hc<|a*b)=a*b)(hy:(aR ha hc<|a*b).all aB=K)(hn:(v+a)*(hi+1)<=100000000000)(hu:0<a)(hz:bP u w f.dst (.d x 0 (v+a) 0)=Q c)(ho:hj.take (v*b)++aR ha hc (a*b)=hk)(h7:aH y m u i t s r p o q n l c h (x+1) ((x,.b k b (v+a) hk)::(bp z hd++z.drop he))):aH y m u i t s r p o q n (f::l) w h x z:=by let a:=mL he z;have:=afr _ h0 h1 h2 hx h3 h5 h4 (a▸hp) (a▸hq) hv hw hr hs ht hy hn hu hz ho J (by rwa[a]);rwa[a]at this
def AH{hx hd k b hf e g he hy hb a j:Nat}{v hg}(hc)(ha)(hr:fH y k=Q (b,hf))(hs:ei y hd=Q k)(ht:bx w i f.guard=Q K)(ho:f.op=.call ⟨.builtin .append,#[.tmp e,.tmp g],#[hd,hd]⟩)(hu:aO w e=Q (ab))(hw:aO w g=Q (.d he hb a j))(hv:aw g e=N)(hj:z[hx]?=Q (he,.b k b hy v))(hl:Y (aR v hb<|a*b)=a*b)(hp:(aR v hb<|a*b).all aB=K)(hh:a*(hf+1)<=100000000000)(hm:0<a)(hq:bP u w f.dst (.d x 0 a 0)=Q c)(hi:aR v hb (a*b)=hg)(hk:(0::ha).Nodup)(hn:(0::ha).all (λd=>cc d<|Y (z.take hc)+1)=K)(hz:aH y m u i t s r p o q n l c h (x+1) (bp ((x,.b k b a hg)::z) (0::ha)++z.drop hc)):aH y m u i t s r p o q n (f::l) w h x z:=by let a:=mL hc z;have:=afq ha _ hr hs ht ho hu hw hv (a▸hj) hl hp hh hm hq hi hk hn J (by rwa[a]);rwa[a]at this
def io{e a d b c}(h:y.funcs[e]?=Q a)(g:a.body=Q d)(j:a.ntmps=u)(f:∀t s r q,di y Z u t s r x (z.map (·.1)) q (gE (bt Z) 0 y a<|hP r x t s λv m l=>∃k,c v m k/\bw (z.map (·.1)) x q k l) d (kJ 0 b) [] x z)(i:cY (Y b) u=K:=by rfl):c6 y e b x z c:=by subst j;exact ajc h g i f
def cD{b}(a:aH y m u (E l) t s r p o q (Exit.then (g.wpIn (bt m) 0 y n) n) l w h x z):di y m u t s r p o q n (.seq (.region b (E l) N) g) w h x z:=g2<|cC a
def cb(a:di y m u t s r p o q n g w h x z):aH y m u i t s r p o q (Exit.then (g.wpIn (bt m) 0 y n) n) [] w h x z:=cG<|eC a
def kZ(a:di y m u t s r p o q (Exit.then (g.wpIn (bt m) 0 y n) n) e w h x z):aH y m u i t s r p o q (Exit.then ((Qs e g).wpIn (bt m) 0 y n) n) [] w h x z:=cG<|eC<|g2 a
def fx{b}(a:aH y m u (E l) t s r p o q (Exit.then (g.wpIn (bt m) 0 y n) n) l w h x z):aH y m u i t s r p o q (Exit.then ((Qs (.region b (E l) N) g).wpIn (bt m) 0 y n) n) [] w h x z:=cG<|eC<|g2<|cC a
def l2{b}(a:aH y m u (E l) t s r p o q (Exit.then (g.wpIn (bt m) 0 y n) n) l w h x z):br u t s r p o q (Exit.then ((Qs (.region b (E l) N) g).wpIn (bt m) 0 y n) n) .normal w h x z:=eC<|g2<|cC a
end
inductive DM where|b(f:ek)|a(d:Nat)|c(e:aX->ap->Prop)
inductive va where|c(j:Array ah)(i:List ah)(f:List DM)(d:au)(g:Nat)(e:U)|a(h:ek)(f:List DM)(d:au)(g:Nat)(e:U)|b(h:Mk)(f:List DM)(d:au)(g:Nat)(e:U)
def rp(a:aD)(b:S Nat):W DM->(bR->aX->ap->Prop)->bR->aX->ap->Prop|[],g=>g|.b l::c,d=>Exit.then (l.wpIn (bt b) 0 a<|rp a b c d) (rp a b c d)|.a j::e,h=>pu j (rp a b e h)|.c k::f,i=>Exit.then k (rp a b f i)
section
variable(z:aD)(y:S Nat)(x:Nat)(w:ap)(u:W Nat)(t:bs)(s:Nat)(r:W Nat)(q:Nat->S P)(p:bR->aX->ap->Prop)(o:W bz)
def pB:va->Prop|.c n j g a k d=>aH z y x n w u t s r q (rp z y g p) j a o k d|.a v h b l e=>di z y x w u t s r q (rp z y h p) v b o l e|.b a i c m f=>br x w u t s r q (rp z y i p) (pS a) c o m f
end
def wR:au->Nat->S X|[],_=>Z|(j,v)::b,a=>if a=j then Q v else wR b a
def gA(a:au):dW->S X|.tmp c=>wR a c|.const d=>Q (.k d)|.func b=>Q (.f b [] [])|.global _=>Z
def zn:va->S va|.a (.seq o r) k l w x=>Q (.a o (.b r::k) l w x)|.a (.region _ k N) l m x y=>Q (.c k (aG k) l m x y)|.a (.region _ _ K) _ _ _ _=>Z|.a (.block k p) m n y z=>Q (.a p (.a k::m) n y z)|.a .skip n o z a=>Q (.b .a n o z a)|.a .ret o p a b=>Q (.b .c o p a b)|.a (.exit l) p q b c=>Q (.b (.b l) p q b c)|.a (.cond i q s) e a g c=>(match gA a i with|Q (.k<|.bool K)=>Q (.a q e a g c)|Q (.k<|.bool N)=>Q (.a s e a g c)|_=>Z)|.a (.loop _) _ _ _ _=>Z|.a (.rangeFunc _ _ _ _) _ _ _ _=>Z|.a (.scope _) _ _ _ _=>Z|.a (.label _) _ _ _ _=>Z|.a (.goto _) _ _ _ _=>Z|.a (.refuse _) _ _ _ _=>Z|.b _ [] _ _ _=>Z|.b .a (.c _::_) _ _ _=>Z|.b .a (.b t::q) r c d=>Q (.a t q r c d)|.b .a (.a _::r) s d e=>Q (.b .a r s d e)|.b .c (_::s) t e f=>Q (.b .c s t e f)|.b (.b m) (.b _::t) u f g=>Q (.b (.b m) t u f g)|.b (.b n) (.c _::u) v g h=>Q (.b (.b n) u v g h)|.b (.b i) (.a j::f) b h d=>if i=j then Q (.b .a f b h d)else Q (.b (.b i) f b h d)|.c _ [] v w h i=>Q (.b .a v w h i)|.c _ (_::_) _ _ _ _=>Z
def V5:∀(b)(c),wR b c=aO b c|[],_=>rfl|(j,v)::e,d=>by rw[cT,wR];by_cases a:d=j;rw[aC a,a,cF];rfl;rw[ak a,lJ a,V5 e d];rfl
def We{b c d}(a:gA b c=Q (R d)):al b c=Q (R d):=by obtain e|h|g|f:=c;rw[<-a];exact(V5 b e).symm;cases a;rfl;cases a;cases a
def hU(a:aD)(b:Nat):Nat->va->W (Nat×Nat)->W Nat->va×W (Nat×Nat)|0,p,l,_=>(p,l)|h+1,e,d,g=>match zn e with|Q q=>hU a b h q d g|Z=>match e with|.c f (n::o) k i m j=>(match Jd a b f n ⟨i,m,j,d,g⟩with|Q c=>hU a b h (.c f o k c.b c.e c.c) c.d c.a|Z=>(e,d))|_=>(e,d)
section
variable{z:aD}{x:S Nat}{y:Nat}{w:ap}{u:W Nat}{t:bs}{s:Nat}{r:W Nat}{q:Nat->S P}{p:bR->aX->ap->Prop}{o:W bz}
def ao7:∀{d e},zn d=Q e->pB z x y w u t s r q p o e->pB z x y w u t s r q p o d:=by
 intro k l a b;unfold zn at a;split at a<;>first|cases a;done|cases a;exact g2 b|cases a;rename_i c _ _ _ _;exact cC b|cases a;exact g1 b|cases a;exact eB b|cases a;exact ev b|cases a;exact uX b|cases a;exact cG b|cases a;exact eC b|cases a;exact b|cases a;rename_i j _ _ _ _;cases j<;>exact b|skip
 split at a;next h=>cases a;exact wF (We h) b
 next i=>cases a;exact l0 (We i) b
 cases a;split at a;next f=>cases a;subst f;exact uZ b
 next g=>cases a;exact afR (lJ g) b
def Mo:∀{i g h c d b},hU z y i g c b=(h,d)->(∀e∈d,e.1=e.2)->(∀f∈c,f.1=f.2)/\(pB z x y w u t s r q p o h->pB z x y w u t s r q p o g)|0,b,c,g,j,l,v,a=>by cases v;exact⟨a,id⟩|n+1,v,d,h,k,m,a,b=>by unfold hU at a;split at a;(next e c=>obtain⟨i,k⟩:=Mo a b;exact⟨i,λe=>ao7 c<|k e⟩);split at a;split at a;(next f d=>obtain⟨j,l⟩:=Mo a b;obtain⟨m,_,n⟩:=Y7 d j;exact⟨m,λf=>n<|l f⟩);cases a;exact⟨b,id⟩;cases a;exact⟨b,id⟩
def yz{c a d b}(e:((hU z y c a [] b).1,(hU z y c a [] b).2.map (·.1))=(d,(hU z y c a [] b).2.map (·.2)))(j:pB z x y w u t s r q p o d):pB z x y w u t s r q p o a:=by obtain⟨rfl,f⟩:=Prod.mk.inj e;exact(Mo J<|I7 f).2 j
end
def qB(a:Nat):W Nat->W Nat|[]=>[a]|b::c=>if b<a then a::b::c else b::qB a c
def hD:W Nat->W Nat|[]=>[]|a::b=>qB a (hD b)
def Nz(a):∀b,(qB a b).Perm (a::b)|[]=>go _|c::d=>by rw[qB];split;exact go _;exact((Nz a d).cons c).trans<|JR _ _ _
def EY:∀b,(hD b).Perm b|[]=>go _|a::c=>(Nz a _).trans ((EY c).cons a)
def Ww{a}:∀{c},c.Pairwise (·>·)->a∉c->(qB a c).Pairwise (·>·)|[],_,_=>List.pairwise_singleton _ _|g::s,d,e=>by let b:=P2.1 d;rw[qB];split;(next f=>exact P2.2 ⟨λh m=>(cB.1 m).elim (λj=>j▸f) λn=>J4 (b.1 h n) f,d⟩);next p=>let r:a≠g:=λk=>e<|k▸.head _;exact P2.2 ⟨λi o=>(cB.1<|(Nz a s).mem_iff.1 o).elim (λl=>by subst l;exact Nat.lt_of_le_of_ne (Nat.not_lt.1 p) r)<|b.1 i,Ww b.2 λq=>e<|.tail _ q⟩
def Jc:∀{b},b.Nodup->(hD b).Pairwise (·>·)|[],_=>List.Pairwise.nil|e::d,a=>Ww (Jc (gi.1 a).2) λc=>(gi.1 a).1<|(EY d).mem_iff.1 c
def qp(a:aD)(b:bv ah)(e:W Nat)(c:aX)(g:ap)(f:W Nat)(d:aX)(h:ap):Prop:=∀(i:Frame)(k)(j),i.roundOf=Z->StepsIn (ya a<|bt Z) a (lone (i.atR c<|.inRegion b e::k) j g) (lone (i.atR d<|.inRegion b f::k) j h)
def yS(b)(a:Machine):a.fenced b (bt Z):=fenced_wide b a
section
variable{w:aD}{y:bv ah}{s:Nat}{u:W Nat}{t:ah}{z:aX}{x r:ap}
def qp.b(c):qp w y c z x c z x:=λ_ _ _ _=>.refl _
def qp.a{e f g c d h i}(j:qp w y e z x f c h)(k:qp w y f c h g d i):qp w y e z x g d i:=λl o m n=>(j l o m n).trans<|k l o m n
def apx{v}(a:y[s]?=Q t)(c:ls t (tb y z.tmps)=K)(b:(aY z.eval t).run w x=.ok (.value v) r):qp w y (s::u) z x u (z.put t.dst v) r:=by
 intro d e f i;let g:=JO (P:=w) (b:=d) (k:=e) (cs:=f) (w:=x) (rest:=u) a c;rw[i]at g;let h:(d.atR z<|.inRegion y (s::u)::e).finish v=d.atR (z.put t.dst v) (.inRegion y u::e):=by rw[FN,a];rfl
 refine .one (yS w _)<|step_lone_go ?_;rw[g,<-h,zQ];simp[JN,b]
def apv{e b a d h g c i}(f:y[s]?=Q t)(n:ls t (tb y z.tmps)=K)(l:t.op=.send e b)(j:z.eval e=.chan (Q a))(k:x.heap[a]?=Q (.chan d c N h g i))(m:aj c<d):qp w y (s::u) z x u (z.put t.dst ee) (x.putObj a<|.chan d (c.push<|z.eval b) N (h+1) g i):=by
 intro o p q e;let v:=JO (P:=w) (b:=o) (k:=p) (cs:=q) (w:=x) (rest:=u) f n;rw[e]at v;let d:(o.atR z<|.inRegion y (s::u)::p).finish ee=o.atR (z.put t.dst ee) (.inRegion y u::p):=by rw[FN,f];rfl
 let f:(aY z.eval t).run w x=.ok (.comm #[Qv a (z.eval b) (.tuple #[])] K .send) x:=by simp[aY,l,j,Qv]
 refine .one (yS w _) ?_;let r:∃c,Fu w K (vW (o.atR z<|.inRegion y (s::u)::p) q) x=.comm (vW (o.atR z<|.inRegion y (s::u)::p) q) #[Qv a (z.eval b) (.tuple #[])] K .send x c:=by let a:Fu w K (vW (o.atR z<|.inRegion y (s::u)::p) q) x=_:=v;rw[a,zQ];simp[JN,f];exact⟨_,J⟩
 let⟨b,r⟩:=r;have:=Go.Conc.step_lone_send_room r k m;rwa[d]at this
def apt{c}{b f m l d:Nat}{n a}(e:y[s]?=Q t)(j:ls t (tb y z.tmps)=K)(i:t.op=.select #[⟨c,Z,d⟩] N)(k:kL w d=Q a)(g:z.eval c=.chan (Q b))(h:x.heap[b]?=Q (.chan f #[] N m l n)):qp w y (s::u) z x u (z.put t.dst<|.tuple #[ju (-1),.bool N,a]) x:=by
 intro o p q f;let v:=JO (P:=w) (b:=o) (k:=p) (cs:=q) (w:=x) (rest:=u) e j;rw[f]at v;let d:(o.atR z<|.inRegion y (s::u)::p).finish (.tuple #[ju (-1),.bool N,a])=o.atR (z.put t.dst<|.tuple #[ju (-1),.bool N,a]) (.inRegion y u::p):=by rw[FN,e];rfl
 let e:(aY z.eval t).run w x=.ok (.comm #[CJ b a] N .select) x:=by simp[aY,i,g,CJ,zk k x]
 refine .one (yS w _) ?_;let r:∃c,Fu w K (vW (o.atR z<|.inRegion y (s::u)::p) q) x=.comm (vW (o.atR z<|.inRegion y (s::u)::p) q) #[CJ b a] N .select x c:=by let a:Fu w K (vW (o.atR z<|.inRegion y (s::u)::p) q) x=_:=v;rw[a,zQ];simp[JN,e];exact⟨_,J⟩
 let⟨b,r⟩:=r;have:=Go.Conc.step_lone_select_default r h;rwa[d]at this
def Ov{e a b}(c:qp w y (fX<|aj y) z x [] a r)(d:b .normal a r):(Kn e y N).wpIn (bt Z) 0 w b z x:=λf i g h j k=>⟨.normal,a,r,d,ta (.one (yS w _) stepR_region)<|(c f i g h).trans<|.one (yS w _) stepR_region_end⟩
end
section
variable{w z:ap}{u:W Nat}{y:bs}{x:aA}
def Jn(a b:P):aA:=((aA.mk 2 .a).c 0<|Q a).c 1<|Q b
def uh(a b:Nat×Nat):bs:=λc=>if c=0 then Q a else if c=1 then Q b else Z
def Pn(b c)(a):(Jn b c).a a=if a=1 then Q c else if a=0 then Q b else Z:=by rw[Jn,aA.b _ (by rw[bi];omega),aA.b _ (by rw[bi];omega)];rfl
def aZ.nl(hh:aZ w u y x z){r s t ha v hb p q}(hc:x.a r=Q t)(he:x.a s=Q ha)(hd:r≠s)(hf:y r=Q p)(hg:y s=Q q)(hi:e1 (uh p q) p v z.heap[p.1]?)(hj:e1 (uh p q) q hb z.heap[q.1]?):aZ z [p.1,q.1] (uh p q) (Jn v hb) z:=by
 let hk:=λv=>hd<|hh.a r s t ha p q hc he hf hg v;let hb:uh p q 0=Q p:=rfl;let hc:uh p q 1=Q q:=rfl;refine⟨hK.g _ _,by show 2<=bi;rw[bi];omega,λs r=>?_,λs t r=>?_,λs j hg hh he hf r t v ha hd=>?_⟩;let he:2<=s:=r;exact⟨λ_=>by rw[uh,ak L,ak L],by rw[Pn,ak L,ak L]⟩;rw[Pn]at r;by_cases he:s=1;subst he;cases r;exact⟨q,hc,hj,.inl az⟩;rw[ak he]at r;by_cases q:s=0;subst q;cases r;exact⟨p,hb,hi,.inl az⟩;rw[ak q]at r;cases r;rw[Pn]at r t;let he:s=0\/s=1:=by by_cases q:s=1;exact .inr q;rw[ak q]at r;by_cases p:s=0;exact .inl p;cases ak p▸r
 let s:j=0\/j=1:=by by_cases r:j=1;exact .inr r;rw[ak r]at t;by_cases p:j=0;exact .inl p;cases ak p▸t
 obtain rfl|rfl:=he<;>obtain rfl|rfl:=s;rfl;cases v;cases ha;exact aE hd hk;cases v;cases ha;exact aE hd.symm hk;rfl
end
def akO(a):G2 a (λ_=>Z):=nofun
def Ey(a):wA a (λ_=>N):=nofun
def yF{a d b e c h i g}(f:a.funcs[d]?=Q b)(k:b.body=Q e)(j:∀(p)(r),p.mode=h->e.wpS a (zt a b p r g) {tmps:=c++vR (b.ntmps-aj c) ee,defers:=[]} (p::r) i):vV (bt Z) 0 a d c h i g:=by
 refine⟨C,λt s i _=>?_⟩;let m:={(default:Frame)with fn:=d,kind:=.deferred};let g:Kp a d c .deferred=m.at {tmps:=c++vR (b.ntmps-aj c) ee,defers:=[]} [.code e]:=by simp[Kp,Frame.at,f,k,m]
 let⟨u,q,r,o,l,n⟩:=j t s i m [] J J;rw[<-g]at n;cases u with|normal=>obtain⟨c,j,rfl,v,s,w⟩:=l;exists .returned v,j,o,_,w,PL.2 (show Comes a _ _<|.returned v from Steps.trans n<|.one step_end),J,J,J,c,b,f|ret=>obtain⟨d,k,rfl,v,t,x⟩:=l;let⟨y,h⟩:=n;exists .returned v,k,o,_,x,PL.2 (show Comes a _ _<|.returned v from h),J,J,J,d,b,f|panic q=>obtain⟨e,p,rfl,y⟩:=l;let⟨x,f⟩:=n;exists .panicked q,p,o,_,y,PL.2 (show Comes a _ _<|.panicked q from f),J,J,J,e,b|exit u=>exact l.elim|goto w=>exact l.elim|outgrown=>let⟨b,z⟩:=l;exists .outgrown,b,o,m,z,PL.2 (show Comes a _ _ .outgrown from n.resolve_left (by simp[m])),J,J
def I8{d:ap}{c b:Nat}{a:W bh}{g:TypeId}{v:bh}(e:d.heap[c]?=Q (.cells (E a) g (0,0)))(f:b<Y a):d.setCell ⟨c,b,Z⟩ v=d.setRow c (E<|qd a b [v]):=by
 rw[World.setCell,Cs];congr 1;apply Kg;intro i;rw[ux,ux];split;rename_i h;subst h;rw[e];simp only[dD,Option.isSome_none,ie,gV];have:a.toArray.setIfInBounds b v=E (qd a b [v]):=by simp[qd];congr 1;rw[asX];simp[f]
 rw[this];rfl
def ML(a:cV):aJ:=aw a 119||aw a 110||aw a 102||aw a 126
section
def ajn(a)(e)(b)(c:b.cell? a=Q e)(d:b.frozen? a=N):vV (bt Z) 0 T 119 #[.pointer (Q a)] .returning b λg i j=>g=.returned (.tuple #[])/\i=.returning/\j=b.setCell a .nilIface:=by refine yF Kz J λf k h=>?_;apply Cy;simp[Cx,go_sem,Cw,h,ntmps119,c,d,zt,uo,results119];cases f;simp_all
def ajl(a)(e)(b)(c:b.cell? a=Q e)(d:b.frozen? a=N):vV (bt Z) 0 T 110 #[.pointer (Q a)] .returning b λg i j=>g=.returned (.tuple #[])/\i=.returning/\j=b.setCell a .nilIface:=by refine yF Ky J λf k h=>?_;apply Cy;simp[Cx,go_sem,Cw,h,ntmps110,c,d,zt,uo,results110];cases f;simp_all
def ajk(a)(e)(b)(c:b.cell? a=Q e)(d:b.frozen? a=N):vV (bt Z) 0 T 102 #[.pointer (Q a)] .returning b λg i j=>g=.returned (.tuple #[])/\i=.returning/\j=b.setCell a .nilIface:=by refine yF Kx J λf k h=>?_;apply Cy;simp[Cx,go_sem,Cw,h,acf,c,d,zt,uo,acp];cases f;simp_all
def ajm(a)(e)(b)(c:b.cell? a=Q e)(d:b.frozen? a=N):vV (bt Z) 0 T 126 #[.pointer (Q a)] .returning b λg i j=>g=.returned (.tuple #[])/\i=.returning/\j=b.setCell a .nilIface:=by refine yF abq J λf k h=>?_;apply Cy;simp[Cx,go_sem,Cw,h,ntmps126,c,d,zt,uo,results126];cases f;simp_all
end
def Ie{b a}(e:T.funcs[b]?=Q a)(d:a.body.isNone=N)(c:∀(f)(z)(g),g.cell? f=Q z->g.frozen? f=N->vV (bt Z) 0 T b #[.pointer (Q f)] .returning g λq u x=>q=.returned (.tuple #[])/\u=.returning/\x=g.setCell f .nilIface):(∃a,T.funcs[b]?=Q a/\a.body.isNone=N)/\∀(l)(h k)(i)(s),l.heap[h]?=Q (.cells (E i) s (0,0))->k<Y i->vV (bt Z) 0 T b #[.pointer (Q ⟨h,k,Z⟩)] .returning l λr t y=>(∃v,r=.returned v)/\t=.returning/\y=l.setRow h (E<|qd i k [.nilIface]):=⟨⟨a,e,d⟩,λw o n p b j m=>by refine(c ⟨o,n,Z⟩ (p[n]) w ?_ ?_).mono ?_;rw[rZ];simp;rw[j];simp[m];rw[JG];simp;rw[j];simp;rintro a c d⟨rfl,rfl,rfl⟩;exact⟨⟨_,J⟩,J,I8 j m⟩⟩
def D9:wA T ML:=λb a=>by rw[ML]at a;simp only[lu]at a;obtain((a|a)|a)|a:=a<;>(have:=b8 a;subst this);exact Ie Kz M ajn;exact Ie Ky M ajl;exact Ie Kx M ajk;exact Ie abq M ajm
def bC:T.follows .mixedOrders=K:=M
def aI:fc T:=by
 let c:T.funcs.toList.all (λa=>!(a.name== "runtime.NumGoroutine"))=K:=M
 intro e b d;have:=lR.1 c b<|bl (by rwa[<-FJ]at d);simpa using this
noncomputable def bn(b a:Nat):Nat:=(HR T b a).getD 0
noncomputable def ct(a:Nat):S Nat:=bif(sV T a).getD N then fI T a else Z
noncomputable def aqm(a:Nat):X:=((kL T a).map X.k).getD<|.c []
noncomputable def dq(a:Nat):W X:=((kL T a).map λb=>b.cells.toList.map X.k).getD []
def Zj:bn 25 0=0/\bn 25 1=1/\bn 25 2=2/\bn 25 3=3/\bn 56 0=0/\bn 56 1=1/\bn 56 2=2/\bn 56 3=3/\bn 56 4=4/\bn 56 5=5/\bn 68 0=0/\bn 68 1=1/\bn 71 0=0/\bn 71 1=1/\bn 73 0=0/\bn 73 1=1/\bn 73 2=2/\bn 73 3=3/\bn 75 0=0/\bn 75 1=1/\bn 75 2=2/\bn 80 0=0/\bn 80 1=3/\bn 80 2=4/\bn 80 3=5/\bn 89 0=0/\bn 89 1=1/\bn 94 0=0/\bn 94 1=1/\bn 94 2=2/\bn 94 3=3/\bn 98 0=0/\bn 98 1=1/\bn 98 2=2/\bn 128 0=0/\bn 128 1=1/\bn 128 2=2/\bn 134 0=0/\bn 134 1=1/\bn 134 2=2/\bn 134 3=3/\bn 134 4=5/\bn 134 5=6/\bn 134 6=7/\bn 134 7=8/\bn 134 8=9/\bn 136 0=0/\bn 136 1=1/\bn 143 0=0/\bn 143 1=1/\bn 161 0=0/\bn 161 1=1/\bn 161 2=2/\bn 161 3=3/\bn 163 0=0/\bn 163 1=1/\bn 169 0=0/\bn 169 1=1/\bn 169 2=2/\bn 169 3=3/\bn 176 0=0/\bn 176 1=1/\bn 176 2=2/\bn 201 0=0/\bn 201 1=1/\bn 203 0=0/\bn 203 1=4/\bn 203 2=5/\bn 203 3=6/\bn 203 4=16/\bn 203 5=17/\bn 203 6=19/\bn 226 0=0/\bn 233 0=0/\bn 246 0=0/\bn 246 1=6/\bn 246 2=8/\bn 246 3=9/\bn 246 4=10/\bn 246 5=11/\bn 246 6=12/\bn 246 7=13/\bn 246 8=14/\bn 246 9=15/\bn 246 10=16/\bn 251 0=0/\bn 251 1=1/\bn 251 2=2/\bn 264 0=0/\bn 264 1=1/\bn 264 2=2/\bn 264 3=3/\bn 307 0=0/\bn 307 1=1/\bn 307 2=2/\bn 307 3=3/\bn 307 4=4/\bn 307 5=5/\bn 307 6=6/\bn 321 0=0/\bn 321 1=1/\bn 321 2=2/\bn 321 3=6/\bn 321 4=7/\bn 321 5=8/\bn 321 6=9/\bn 321 7=10/\bn 323 0=0/\bn 328 0=0/\bn 331 0=0/\bn 331 1=1/\bn 368 0=0/\bn 368 1=1/\bn 368 2=2/\bn 368 3=3/\bn 368 4=4/\bn 368 5=5/\bn 368 6=6/\bn 377 0=0/\bn 377 1=1/\bn 380 0=0/\bn 380 1=4/\bn 384 0=0/\bn 384 1=1/\bn 391 0=0/\bn 391 1=10/\bn 475 0=0/\bn 475 1=7:=by
 repeat' apply Ke
 all_goals kernel_rfl
def Pd:ct 3=Z/\ct 4=Z/\ct 5=Z/\ct 9=Z/\ct 20=Z/\ct 22=Z/\ct 23=Z/\ct 25=Q 4/\ct 47=Z/\ct 50=Z/\ct 53=Z/\ct 54=Z/\ct 56=Q 6/\ct 61=Z/\ct 64=Z/\ct 69=Z/\ct 71=Q 2/\ct 73=Q 5/\ct 75=Q 7/\ct 76=Z/\ct 82=Z/\ct 89=Q 2/\ct 92=Z/\ct 94=Q 4/\ct 98=Q 3/\ct 100=Z/\ct 128=Q 4/\ct 131=Z/\ct 132=Z/\ct 134=Q 10/\ct 136=Q 2/\ct 143=Q 2/\ct 163=Q 2/\ct 169=Q 4/\ct 176=Q 3/\ct 197=Z/\ct 201=Q 2/\ct 203=Q 20/\ct 238=Z/\ct 240=Z/\ct 241=Z/\ct 243=Z/\ct 244=Z/\ct 249=Z/\ct 260=Z/\ct 264=Q 4/\ct 266=Z/\ct 299=Z/\ct 301=Z/\ct 302=Z/\ct 303=Z/\ct 304=Z/\ct 305=Z/\ct 307=Q 7/\ct 314=Z/\ct 316=Z/\ct 317=Z/\ct 318=Z/\ct 319=Z/\ct 323=Q 1/\ct 325=Z/\ct 328=Q 1/\ct 329=Z/\ct 331=Q 2/\ct 364=Z/\ct 366=Z/\ct 380=Q 5/\ct 384=Q 2/\ct 385=Z/\ct 389=Z/\ct 464=Z/\ct 475=Q 8:=by
 repeat' apply Ke
 all_goals kernel_rfl
noncomputable def g8(a:Nat):Nat×Nat:=match T.underlying a with|Q (.slice b)=>(b,(fI T b).getD 0)|_=>(0,0)
def Zi:g8 22=(128,4)/\g8 23=(134,10)/\g8 47=(136,2)/\g8 52=(25,4)/\g8 53=(89,2)/\g8 54=(3,1)/\g8 64=(5,1)/\g8 69=(71,2)/\g8 76=(75,7)/\g8 92=(98,3)/\g8 131=(169,4)/\g8 132=(176,3)/\g8 198=(264,4)/\g8 238=(307,7)/\g8 243=(364,1)/\g8 310=(9,1)/\g8 317=(380,5)/\g8 318=(329,1)/\g8 319=(366,1)/\g8 389=(475,8)/\g8 396=(3,1):=by
 repeat' apply Ke
 all_goals kernel_rfl
def Zk:dq 3=[V 0]/\dq 4=[R N]/\dq 5=[.k<|.int .u8 0]/\dq 9=[O ⟨#[]⟩]/\dq 20=[bN]/\dq 25=[O ⟨#[]⟩,O ⟨#[]⟩,ab,ab]/\dq 56=[ab,O ⟨#[]⟩,ab,V 0,V 0,V 0]/\dq 68=[ab,V 0]/\dq 71=[V 0,O ⟨#[]⟩]/\dq 73=[O ⟨#[]⟩,O ⟨#[]⟩,ab,V 0,O ⟨#[]⟩]/\dq 75=[V 0,V 0,O ⟨#[]⟩,O ⟨#[]⟩,ab,V 0,O ⟨#[]⟩]/\dq 78=[V 0,V 0,V 0]/\dq 80=[V 0,V 0,V 0,ab,V 0,R N]/\dq 89=[O ⟨#[]⟩,O ⟨#[]⟩]/\dq 94=[V 0,O ⟨#[]⟩,ab,V 0]/\dq 98=[V 0,V 0,O ⟨#[]⟩]/\dq 128=[O ⟨#[]⟩,R N,V 0,O ⟨#[]⟩]/\dq 134=[O ⟨#[]⟩,R N,ab,V 0,O ⟨#[]⟩,V 0,V 0,ab,ab,ab]/\dq 136=[O ⟨#[]⟩,O ⟨#[]⟩]/\dq 143=[V 0,V 0]/\dq 161=[V 0,V 0,be,be]/\dq 163=[.k .nilFunc,.k .nilFunc]/\dq 169=[V 0,V 0,V 0,O ⟨#[]⟩]/\dq 176=[V 0,ab,ab]/\dq 201=[ab,ab]/\dq 203=[O ⟨#[]⟩,O ⟨#[]⟩,ab,ab,.k<|.map Z,V 0,O ⟨#[]⟩,R N,ab,V 0,O ⟨#[]⟩,V 0,V 0,ab,ab,ab,V 0,ab,ab,R N]/\dq 226=[O ⟨#[]⟩]/\dq 233=[ab]/\dq 244=[be]/\dq 246=[ab,O ⟨#[]⟩,ab,V 0,V 0,V 0,.k .nilFunc,.k .nilFunc,ab,.k<|.map Z,ab,ab,be,V 0,V 0,ab,be]/\dq 251=[V 0,V 0,.k<|.chan Z]/\dq 264=[.k .nilFunc,.k .nilFunc,R N,R N]/\dq 273=[]/\dq 307=[.k .nilFunc,.k .nilFunc,R N,.k .nilFunc,.k .nilFunc,.k .nilFunc,.k .nilFunc]/\dq 314=[be]/\dq 321=[O ⟨#[]⟩,be,O ⟨#[]⟩,O ⟨#[]⟩,ab,ab,V 0,ab,ab,ab,ab]/\dq 323=[be]/\dq 328=[O ⟨#[]⟩]/\dq 329=[be]/\dq 331=[be,be]/\dq 364=[be]/\dq 366=[bN]/\dq 368=[be,V 0,V 0,ab,ab,be,be]/\dq 377=[be,ab]/\dq 380=[O ⟨#[]⟩,R N,V 0,O ⟨#[]⟩,V 0]/\dq 384=[be,V 0]/\dq 391=[O ⟨#[]⟩,R N,ab,V 0,O ⟨#[]⟩,V 0,V 0,ab,ab,ab,ab]/\dq 396=[ab]/\dq 464=[.k<|.int .u64 0]/\dq 475=[V 0,V 0,O ⟨#[]⟩,O ⟨#[]⟩,ab,V 0,O ⟨#[]⟩,bN]/\dq 485=[]:=by
 repeat' apply Ke
 all_goals kernel_rfl
def jn{a:Type}:W a->Nat->S a|[],_=>Z|d::c,b=>if b=0 then Q d else jn c (b-1)
def El(a:au):W dW->S (W X)|[]=>Q []|d::c=>match gA a d,El a c with|Q v,Q b=>Q (v::b)|_,_=>Z
def Ek(a:au):W (Nat×dW)->S (W<|Nat×X)|[]=>Q []|(b,e)::d=>match gA a e,Ek a d with|Q v,Q c=>Q ((b,v)::c)|_,_=>Z
def vk:W X->Nat->W X->W X|e,_,[]=>e|[],_,_=>[]|f::c,b,d::a=>if b=0 then d::vk c 0 a else f::vk c (b-1) (d::a)
def Bn:X->W X|.b a=>a|v=>[v]
def HX(b:Nat)(a:W X):W (Nat×X)->W X|[]=>a|(c,v)::d=>HX b (vk a (bn b c)<|Bn v) d
def HZ(b:Nat)(a:W X):W (Nat×X)->W X|[]=>a|(c,v)::d=>HZ b (vk a (c*b)<|Bn v) d
def H8(a:W X):Nat->W X|0=>[]|b+1=>a++H8 a b
def Bo:W X->Nat->Nat->S (W X)|_,_,0=>Q []|[],_,_+1=>Z|d::c,a,b+1=>if a=0 then(Bo c 0 b).map (d::·)else Bo c (a-1) (b+1)
def Nr(a:W X):S Nat->S X|Q _=>Q (.b a)|Z=>jn a 0
def Nj(b:IntKind)(a j:Int):BinOp->S X|.lss=>Q (R<|aF a j)|.leq=>Q (R<|!(aF j a))|.gtr=>Q (R<|aF j a)|.geq=>Q (R<|!(aF a j))|.eql=>Q (R<|ao a j)|.neq=>Q (R<|!(ao a j))|.add=>Q (.k<|.int b<|wV b a j)|.sub=>Q (.k<|.int b<|vo b a j)|_=>Z
def H5:bh->S aJ|.pointer Z=>Q K|.nilIface=>Q K|.nilFunc=>Q K|.slice Z _ _=>Q K|.map Z=>Q K|_=>Z
def H4:X->S aJ|.a _ _=>Q N|.e _ _=>Q N|.f _ _ _=>Q N|.d _ _ _ _=>Q N|.g _=>Q N|.k a=>H5 a|_=>Z
def Ni(a b:S aJ):BinOp->S X|.eql=>(match a,b with|Q c,Q K=>Q (R c)|Q K,Q d=>Q (R d)|_,_=>Z)|.neq=>(match a,b with|Q e,Q K=>Q (R<|!e)|Q K,Q f=>Q (R<|!f)|_,_=>Z)|_=>Z
def H3:X->S (IntKind×Int)|.k (.int b a)=>Q (b,a)|_=>Z
def Ng(a:BinOp)(b c:X):S X:=match H3 b,H3 c with|Q d,Q e=>Nj d.1 d.2 e.2 a|_,_=>Ni (H4 b) (H4 c) a
def Nh(a:au):Callee->W dW->S X|.builtin .len,[d]=>(match gA a d with|Q (.d _ _ b _)=>Q (B b)|Q (.k<|.slice Z c _)=>Q (B c)|_=>Z)|_,_=>Z
def H7(a:au):Op->S X|.move d=>gA a d|.assign f=>gA a f|.nilCheck g=>gA a g|.extract h o=>(match gA a h with|Q (.c s)=>jn s o|_=>Z)|.fieldAddr w i m=>(match gA a i with|Q (.a g q)=>Q (.a g<|q+bn w m)|_=>Z)|.makeInterface x j=>(match gA a j with|Q v=>Q (.e x v)|_=>Z)|.makeFunc (.func n) e k=>(match El a (aG e),El a (aG k)with|Q k,Q t=>Q (.f n k t)|_,_=>Z)|.typeAssert l _ b K=>(match gA a l with|Q (.e c v)=>if c=b then Q (.c [v,R K])else(Nr (dq b)<|ct b).map λy=>.c [y,R N]|Q (.k m)=>(match H5 m with|Q K=>Q (.c [aqm b,R N])|_=>Z)|_=>Z)|.typeAssert n _ y N=>(match gA a n with|Q (.e b v)=>if b=y then Q v else Z|_=>Z)|.pick l o u=>(match gA a l with|Q (.k<|.bool K)=>gA a o|Q (.k<|.bool N)=>gA a u|_=>Z)|.indexAddr z p w=>(match gA a p,gA a w with|Q (.d h r _ _),Q (.k<|.int _ p)=>Q (.a h<|r+p.toNat*(g8 z).2)|_,_=>Z)|.slice _ q _ _ _=>(match gA a q with|Q (.k<|.slice Z 0 0)=>Q (ab)|_=>Z)|.unOp .not _ r=>(match gA a r with|Q (.k<|.bool i)=>Q (R<|!i)|_=>Z)|.binOp t _ s x _=>(match gA a s,gA a x with|Q f,Q j=>Ng t f j|_,_=>Z)|.build d u=>(match Ek a (aG u)with|Q e=>Q (.b<|HX d (dq d) e)|Z=>Z)|.call c=>Nh a c.callee (aG c.args)|_=>Z
def Nf(b:au)(a:Nat):Op->S (X×P)|.box _ h=>(match gA b h with|Q v=>Q (.a a 0,.a<|Bn v)|Z=>Z)|.alloc f=>Q (.a a 0,.a<|dq f)|.buildSlice c d e=>(match Ek b (aG e)with|Q g=>Q (.d a 0 d 0,.b (g8 c).1 (g8 c).2 d<|HZ (g8 c).2 (H8 (dq (g8 c).1) d) g)|Z=>Z)|.makeMap _ Z=>Q (.g a,.c [])|.call _=>Z|_=>Z
def Nq:aJ->S X->S aJ|K,Q (.k<|.bool K)=>Q K|K,Q (.k<|.bool N)=>Q N|N,Q (.k<|.bool K)=>Q N|N,Q (.k<|.bool N)=>Q K|_,Q (.c _)=>Q N|_,_=>Z
def Ib(a:au)(b:W ah):S (Nat×aJ)->S aJ|Z=>Q K|Q (j,c)=>match jn b j with|Q e=>(match e.dst with|Q d=>Nq c (wR a d)|Z=>Z)|Z=>Z
def hA(a:au):S Nat->X->au|Z,_=>a|Q b,v=>(b,v)::a
def Ej(a:W X)(b:Nat):S Nat->S X|Q c=>(Bo a b c).map X.b|Z=>jn a b
def Bp(b:S Nat)(a:Nat):P->S X|.a c=>Ej c a b|.b _ _ _ d=>Ej d a b|_=>Z
def H9(b:Nat)(a:W X):P->P|.a f=>.a (vk f b a)|.b d h e g=>.b d h e (vk g b a)|c=>c
def Br:U->Nat->Nat->W X->U|[],_,_,_=>[]|(a,f)::e,c,d,b=>if c=0 then(a,H9 d b f)::e else(a,f)::Br e (c-1) d b
def Np(f:W ah)(a:au)(c:Nat)(b:U)(e:W Nat)(d:ah):S (au×Nat×U×W Nat):=match Ib a f d.guard with|Q N=>Q (hA a d.dst<|.c [],c,b,e)|Z=>Z|Q K=>match d.op with|.load p q=>(match gA a q,e with|Q (.a _ m),j::k=>(match jn b j with|Q o=>(match Bp (ct p) m o.2 with|Q v=>Q (hA a d.dst v,c,b,k)|Z=>Z)|Z=>Z)|_,_=>Z)|.store _ r s=>(match gA a r,gA a s,e with|Q (.a _ n),Q v,g::l=>(match jn b g with|Q _=>Q (a,c,Br b g n<|Bn v,l)|Z=>Z)|_,_,_=>Z)|h=>(match H7 a h with|Q v=>Q (hA a d.dst v,c,b,e)|Z=>(match Nf a c h with|Q i=>Q (hA a d.dst i.1,c+1,(c,i.2)::b,e)|Z=>Z))
def vl(a:Nat):au->au|[]=>[]|(j,v)::b=>if j=a then vl a b else(j,v)::vl a b
def V2(a:Nat):∀d:au,d.filter (λe=>!(aw e.1 a))=vl a d|[]=>rfl|(j,v)::c=>by rw[i2,show vl a ((j,v)::c)=if j=a then vl a c else(j,v)::vl a c from rfl,V2 a c];by_cases b:j=a;rw[aC b,b,cF];rfl;rw[ak b,lJ b];rfl
def Vi(a:au)(b:Nat)(c:W Nat):qu a (b::c)=qu (vl b a) c:=by rw[<-V2];rfl
def Vj(a):qu a []=a:=by cases a<;>rfl
def rG:Nat->va->W Nat->va|w+1,.c b (o::p) i c l f,a=>(match Np (aG b) c l f a o with|Q a=>rG w (.c b p i a.1 a.2.1 a.2.2.1) a.2.2.2|Z=>.c b (o::p) i c l f)|x+1,.c h [] u s v t,b=>rG x (.b .a u s v t) b|y+1,.a q j d m g,c=>(match zn (.a q j d m g)with|Q e=>rG y e c|Z=>.a q j d m g)|z+1,.b r k e n h,d=>(match zn (.b r k e n h)with|Q f=>rG z f d|Z=>.b r k e n h)|0,g,_=>g
section
variable{s:S Nat}{z:Nat}{r:ap}{q:W Nat}{p:bs}{o y:Nat}{n:W Nat}{m:Nat->S P}{l:bR->aX->ap->Prop}{k:W bz}{h:bv ah}{g:W ah}{u:W DM}{x:au}{w:U}{i:ek}{t:va}
def T3{a:bR}:br z r q p o n m (rp T s [] l) a x k y w=br z r q p o n m l a x k y w:=rfl
def AB{d}{a b:d}(c:a=b:=by simp only[rG,zn,kJ,Np,H7,Nf,Ng,Nj,H5,H4,Ni,H3,Nh,gA,El,Ek,wR,jn,Ib,Nq,hA,Bp,Br,H9,Bn,vk,HX,HZ,H8,Bo,Nr,Ej,Zj,Pd,Zk,Zi,ite_true,Nat.reduceEqDiff,if_false,reduceIte,Option.map_some,Nat.reduceAdd,Nat.reduceSub,Nat.reduceMul,Nat.zero_mul,Nat.add_zero,Int.reduceToNat,Bool.not_true,Bool.not_false,List.cons_append,List.nil_append,cS,List.eraseIdx_zero,List.eraseIdx_cons_succ,List.tail_cons,Vi,Vj,vl,yH,vB,hD,qB,Nat.reduceLT,List.take_succ_cons,List.take_zero,List.drop_succ_cons,List.drop_zero];exact rfl):a=b:=c
def Du{a b:Prop}(c:a=b:=by simp only[pB,pS,T3];exact rfl):a=b:=c
def I(b)(a){c}(j:c)(f:rG b (.c h g u x y w) a=t:=by exact AB)(e:pB T s z r q p o n m l k t=c:=by exact Du)(d:((hU T z b (.c h g u x y w) [] a).1,(hU T z b (.c h g u x y w) [] a).2.map (·.1))=(t,(hU T z b (.c h g u x y w) [] a).2.map (·.2)):=by kernel_rfl):aH T s z h r q p o n m (rp T s u l) g x k y w:=yz d<|e▸j
def aa(b)(a){c}(j:c)(f:rG b (.a i u x y w) a=t:=by exact AB)(e:pB T s z r q p o n m l k t=c:=by exact Du)(d:((hU T z b (.a i u x y w) [] a).1,(hU T z b (.a i u x y w) [] a).2.map (·.1))=(t,(hU T z b (.a i u x y w) [] a).2.map (·.2)):=by kernel_rfl):di T s z r q p o n m (rp T s u l) i x k y w:=yz d<|e▸j
def bO(b)(a){c}(j:c)(f:rG b (.a i [] x y w) a=t:=by exact AB)(e:pB T s z r q p o n m l k t=c:=by exact Du)(d:((hU T z b (.a i [] x y w) [] a).1,(hU T z b (.a i [] x y w) [] a).2.map (·.1))=(t,(hU T z b (.a i [] x y w) [] a).2.map (·.2)):=by kernel_rfl):di T s z r q p o n m l i x k y w:=yz d<|e▸j
def aL(a)(c)(b){d}(j:d)(g:rG c (.b a u x y w) b=t:=by exact AB)(f:pB T s z r q p o n m l k t=d:=by exact Du)(e:((hU T z c (.b a u x y w) [] b).1,(hU T z c (.b a u x y w) [] b).2.map (·.1))=(t,(hU T z c (.b a u x y w) [] b).2.map (·.2)):=by kernel_rfl):br z r q p o n m (rp T s u l) (pS a) x k y w:=yz e<|f▸j
end
abbrev ew(a:Int):X:=.e 3<|V a
section
variable{w x u z:Nat}{t s r q p o v:X}{y:W X}
def ajB{a:Nat}{b:X}(c:Y y=z)(d:z<=50000):c6 T 287 [.a w 0,.e a b] u [(w,.a [t,s,r,q,.d x 0 z 0,p,o]),(x,.b 366 1 z y)] λg f e=>g=.c []/\f=u+2/\e=[(w,.a [t,s,r,q,.d (u+1) 0 (z+1) 0,p,o]),(u+1,.b 366 1 (z+1)<|y++[.e a b])]:=by refine io func287 J ntmps287 λ_ _ _ _=>?_;apply bO 8 [0];refine mn (v:=2) (hg:=0) (k:=366) (g:=1) (hd:=16) (hh:=[1]) (hf:=(y++[X.e a b])) _ M M J J J J J J J A J L J J L L J (agB c _) J<|I 4 [1]<|eg [1,0] (.inl J) aI J A ?_;exists J,J
def Pa{a b:Nat}(e:z<=b)(d:z<=50000)(c:a<=z)(f:0<a):c6 T 307 [.a w 0,B a] u [(w,.a [t,s,r,q,.d x 0 z 0,p,o]),(x,.b 366 1 b y)] λi h g=>i=.d x (z-a) a (z-a)/\h=u/\g=[(w,.a [t,s,r,q,.d x 0 (z-a) 0,p,o]),(x,.b 366 1 b y)]:=by refine io func307 J ntmps307 λ_ _ _ _=>?_;refine bO 13 [0]<|dZ (v:=B<|z-a) J (xd J J J L L) J ?_;apply I 10 [0];refine afA (hq:=1) (d:=366) (v:=1) (f:=b) (a:=(z-a)) J J M M J J J J L L L J<|I 11 [0] ?_;refine TU (hn:=1) (b:=366) (ha:=1) (f:=b) (c:=(z-a)) J J M M J J J J L J ?_;apply I 12 [0];refine eg [0,1] (.inr J) aI J A ?_;refine⟨?_,J,J⟩;show X.d _ _ _ _=_;rw[eK,eK,xN,Nat.sub_sub_self c]
def agM(a:Y y=z)(v):(y++[v])[z+0*1]?=Q v:=by subst a;simp
def Pb(b:Y y=z)(a):(y++a).take (z*1)=y:=by subst b;simp
def Cg(a:Y y=z)(b:z+1<=50000):c6 T 288 [.a w 0] u [(w,.a [t,s,r,q,.d x 0 (z+1) 0,p,o]),(x,.b 366 1 (z+1)<|y++[v])] λe d c=>e=v/\d=u/\c=[(w,.a [t,s,r,q,.d x 0 z 0,p,o]),(x,.b 366 1 z y)]:=by refine io func288 J ntmps288 λ_ _ _ _=>?_;refine bO 8 []<|sy [0,1] [1,0] aI J J J J (Pa (a:=1) (bd _) b L L) J ?_;refine dZ (v:=.a x<|z+0*1) J (fi J J J M L) J<|mo (he:=1) (v:=v) J J J J (fS M<|agM a v) J<|I 4 [] ?_;refine GR (v:=1) (a:=z) (f:=y) [(w,.a [t,s,r,q,X.d x 0 z 0,p,o]),(x,.b 366 1 z y)] J L (Pb a _) J<|eg [0,1] (.inr J) aI J A<|bq
def Zg{a}(c:Y y=z)(b:z+1<=50000):c6 T 294 [.a w 0] u [(w,.a [t,s,r,q,.d x 0 (z+1) 0,p,o]),(x,.b 366 1 (z+1)<|y++[.e 3<|V a])] λf e d=>f=V a/\e=u/\d=[(w,.a [t,s,r,q,.d x 0 z 0,p,o]),(x,.b 366 1 z y)]:=by refine io func294 J ntmps294 λ_ _ _ _=>?_;refine bO 8 []<|sy [0,1] [1,0] aI J J J J (Cg c b) J<|I 5 [] ?_;refine eg [0,1] (.inr J) aI J A<|bq
def agN(a:Y y=z)(v b):(y++[v,b])[z+0*1]?=Q v:=by subst a;simp
def agO(b:Y y=z)(v a):(y++[v,a])[z+1*1]?=Q a:=by subst b;simp
end
section
variable{v:X}{z:W X}
def akC{a}(b:z[a]?=Q v):z[0+a*1]?=Q v:=by rwa[eK,xN]
end
section
variable{w u x s:Nat}{r q p o n m l k i h g f e d c b:X}{z y:Int}{a:ac}{t:W (ac×X)}
def Pf(j:cp a t=Q (.e 323<|.b [.a s 0])):c6 T 239 [.a w 0,O a] u [(w,.a [r,q,p,o,n,m,l,k,i,.g x,h,g,f,e,d,c,b]),(x,.c t)] λz y v=>z=.a s 0/\y=u+1/\v=[(w,.a [r,q,p,o,n,m,l,k,i,.g x,h,g,f,e,d,c,b]),(x,.c t)]:=by refine io FT J Q6 λ_ _ _ _=>?_;apply bO 13 [0];refine yu (hl:=1) (y:=325) (b:=.nilIface) (v:=.e 323<|.b [.a s 0]) J J M M J J J (λ_ z=>by cases z<;>rfl) J (by rw[j];rfl) J<|I 27 [0,0]<|eg [1,2] (.inr J) aI J A ?_;exists J,J
def aiG(j:cp a t=Q (.e 323<|.b [.a s 0])):c6 T 292 [.a w 0,O a] u [(w,.a [r,q,p,o,n,m,l,k,i,.g x,h,g,f,e,d,c,b]),(x,.c t)] λz y v=>z=.a (u+1) 0/\y=u+2/\v=[(w,.a [r,q,p,o,n,m,l,k,i,.g x,h,g,f,e,d,c,b]),(x,.c t),(u+1,.a [.a s 0,ab])]:=by refine io func292 J ntmps292 λ_ _ _ _=>?_;refine bO 9 []<|sy [0,1] [1,0] aI J J J J (Pf j) J<|I 6 [] ?_;refine eg [1,2,0] (.inr J) aI J A<|bq
def akL{a e}{f j:Nat}{b c}(d:e.op=.binOp .quo f b c j)(g:al a b=Q (V z))(h:al a c=Q (V y))(i:y≠0):eb T a dT e=Q (V<|gF.wrap<|z.tdiv y):=by
 let k:gz a b=Q (.int .i64 z):=by rw[gz,g];rfl
 let l:gz a c=Q (.int .i64 y):=by rw[gz,h];rfl
 rw[eb,dt,d];simp only[g,h,qy,jm];let n:aG e.op.operands=[b,c]:=by rw[d];rfl
 rw[n,d];simp[k,l,b4];have:gQ T (aY (λz=>(gz a z).getD ee) e)=Q (.value<|.int .i64<|gF.wrap<|z.tdiv y):=by simp[aY,d];rw[k,l];show gQ T (do um Qj f b c (kN gF z) (kN gF y)Ku<$>eT Qj f (kN gF z) (kN gF y))=_;(let m:eT Qj f (kN gF z) (kN gF y)=pure (.int .i64<|gF.wrap<|z.tdiv y):=by simp[eT,Op.intDiv,i]);rw[m];rfl
 rw[this];rfl
end
section
variable{u:aD}{q:bv ah}{o p:Nat}{n:W Nat}{y:ah}{w:aX}{m t r:ap}{l:W Nat}{s:bs}{x:au}{k:W bz}{z:aA}
def apw(a:q[o]?=Q y)(c:ls y (tb q w.tmps)=K)(b:(aY w.eval y).run u t=.ok .skip r):qp u q (o::n) w t n (w.put y.dst ee) r:=by
 intro d e f i;let g:=JO (P:=u) (b:=d) (k:=e) (cs:=f) (w:=t) (rest:=n) a c;rw[i]at g;let h:(d.atR w<|.inRegion q (o::n)::e).finish ee=d.atR (w.put y.dst ee) (.inRegion q n::e):=by rw[FN,a];rfl
 refine .one (yS u _)<|step_lone_go ?_;rw[g,<-h,zQ];simp[JN,b]
def Y8(p:Nat)(x:au)(y:ah):S (X×aA)->S (au×aA)|Q (v,b)=>(bP p x y.dst v).map λa=>(a,b)|Z=>Z
def Je(p:Nat)(x:au)(z:aA)(y:ah):S dh->S (au×aA)|Q (.b a)=>Y8 p x y (vr z.f a)|_=>Z
def l9(u:aD)(p:Nat):W ah->au->aA->S (au×aA)|[],x,z=>Q (x,z)|y::b,x,z=>(Je p x z y<|dt u x z y).bind λa=>l9 u p b a.1 a.2
def Dy(q:bv ah):W Nat->W ah->Prop|[],[]=>True|o::b,y::a=>(q[o]?=Q y/\y.guard=Z)/\Dy q b a|_,_=>False
def Jm:∀(a)(f){x z s w t j i},Dy q f a->l9 u p a x z=Q (j,i)->aZ m l s z t->b0 p w x k s->∃c r b,qp u q (f++n) w t n c r/\fo z.f i.f s b/\aZ m l b i r/\b0 p c j k b|[],[],x,z,s,w,t,d,a,_,g,c,e=>by cases g;exists w,t,s,.b _,fo.b _ _,c|y::b,[],x,z,s,w,t,e,g,a,f,j,i=>by cases a|[],o::e,x,z,s,w,t,j,h,b,a,d,c=>by cases b|y::j,o::hg,x,z,s,w,t,c,d,e,a,i,b=>by let⟨c,e⟩:=e;simp[l9]at a;cases d:dt u x z y with|none=>cases d▸a|some h=>rw[d]at a;cases h with|b g=>simp[Je]at a;(cases f:vr z.f g with|none=>cases f▸a|some g=>let⟨v,h⟩:=g;rw[f]at a;simp[Y8]at a;cases g:bP p x y.dst v with|none=>cases g▸a|some h=>rw[g]at a;simp[b2]at a;let⟨he,hc,ha,hd,h,hb,hf⟩:=NJ (sH i b d) f;let⟨f,r,i,d,hc,he,ha⟩:=Jm j hg e a hf<|gD (b.c h.1) hb g;(let e:ls y (tb q w.tmps)=K:=by rw[ls,c.2]);refine⟨f,r,i,?_,h.a hc,he,ha⟩;obtain h|⟨rfl,h⟩:=hd;exact(apx c.1 e h).a d;exact(apw c.1 e h).a d)|c d b=>cases a|d f=>cases a
def HD:S fe->au|Q (.a _ x _ _)=>x|_=>[]
def Hu:S fe->W bz|Q (.a _ _ k _)=>k|_=>[]
def B6:S fe->aA|Q (.a _ _ _ z)=>z|Q (.b _ z)=>z|_=>⟨0,.a⟩
def NX:S fe->aJ|Q (.a .a _ _ _)=>K|_=>N
def OG:S fe->aJ|Q (.a .c _ _ _)=>K|_=>N
def akP{a}(b:NX a=K):a=Q (.a .a (HD a) (Hu a)<|B6 a):=by unfold NX at b;split at b;rfl;cases b
def anP{a}(b:OG a=K):a=Q (.a .c (HD a) (Hu a)<|B6 a):=by unfold OG at b;split at b;rfl;cases b
def XV{h:wA u (λ_=>N)}(j:fc u){d f b e v a c}(n:aZ m l s b t)(g:c=[])(o:aT s v=Q a)(i:e=b.f)(k:∀r,(uo d f).run u r=.ok a r):kP (bt Z) 0 u d f (λq r=>∃a p,q=.returned a/\fo e b.f s p/\aT p v=Q a/\aZ m l p b r) c .returning t:=by subst g;subst i;exact xb j h [] J n J λx w=>⟨a,k x,a,s,J,fo.b _ _,o,w⟩
end
def Pv:W X->aA->S (X×aA)|[.k<|.string a],b=>bif cY a.size 4000000 then Q (O a,b)else Z|_,_=>Z
def Jv:W X->aA->S (X×aA)|[.a e 0],a=>(match a.a e with|Q (.a [.k<|.int .i64 f,.k<|.int .i64 g,.h b])=>(match a.a b with|Q (.d c d)=>bif ao g f then(bif cc d c then Q (.c [],a.c b<|Q<|.d c<|d+1)else Z)else Q (.c [],a)|_=>Z)|_=>Z)|_,_=>Z
def Pw:W X->aA->S (X×aA)|[.a b 0],a=>(match a.a b with|Q (.a [.k<|.int .i64 _,.k<|.int .i64 _,.h c])=>(match a.a c with|Q (.d _ 0)=>Q (R N,a)|_=>Z)|_=>Z)|_,_=>Z
def Mj:Dw:=λa=>bif aw a 131 then Q Pv else bif aw a 236 then Q Jv else bif aw a 352 then Q Pw else Z
def U9{b c d v}(a:Pv b c=Q (v,d)):jH T (.b 131 b c) (.b v d):=by
 unfold Pv at a;split at a;rename_i f;cases e:cY f.size 4000000 with|false=>cases e▸a|true=>cases e▸a;refine⟨⟨_,func131,M⟩,λr n g m p j i=>?_⟩;obtain⟨s,t,k,l,rfl⟩:=jK.1 i;have:=eh k;subst this;cases l;apply(callsIn_wide.2<|aqE f m<|ez e).mono;rintro o q⟨rfl,h⟩;exact⟨_,g,J,fo.b _ _,J,j.g h⟩
 cases a
def sC(a:Nat):fG:=OH T (λ_=>Z) (λ_=>N) (HB T) a
def T8(a):rv T (sC a):=OK aI (akO _) (Ey _) (λ_ b=>Vw bC aI b) a
def MP{p e n c j}(h:aZ p n c j e){a b l m f i k}(g:j.a a=Q (.a [V l,V m,.h b]))(d:j.a b=Q (.d f i))(o:bm c [.a a 0]=Q k):∃q r s w u,c a=Q q/\c b=Q r/\k=[.pointer<|Q ⟨q.1,0,Z⟩]/\e.heap[r.1]?=Q (.chan f s N w u N)/\aj s=i/\aZ e [q.1,r.1] (uh q r) (Jn (.a [V l,V m,.h 1])<|.d f i) e:=by
 obtain⟨v,f,m,t,rfl⟩:=jK.1 o;cases t;obtain⟨q,x,rfl⟩:=pd m;let⟨o,c,j,_⟩:=h.b a _ g;cases x▸c;let⟨r,y,k,_⟩:=h.b b _ d;let⟨s,w,u,z,e⟩:=k;let⟨f,n,t,l⟩:=j;have i:a≠b:=λa=>by subst a;cases g▸d
 refine⟨q,r,s,w,u,x,y,J,z,e,h.nl g d i x y ?_ ⟨s,w,u,z,e⟩⟩;refine⟨f,n,?_,l⟩;simp only[bm,aT,y]at t⊢;exact t
def Mq{b c a}(e:1<=b)(d:c 0=Q a):b0 b {tmps:=E [asn<|Q ⟨a.1,0,Z⟩]++vR (b-aj [asn<|Q ⟨a.1,0,Z⟩].toArray) ee,defers:=[]} [(0,.a 0 0)] [] c:=by refine⟨⟨by rw[xT,vS];omega,λh v f=>?_⟩,J⟩;rw[cT]at f;cases g:aw h 0 with|false=>cases g▸f|true=>cases g▸f;have:=b8 g;subst this;exact⟨.pointer<|Q ⟨a.1,0,Z⟩,by rw[aT,d,dD],by rw[xS az];rfl⟩
def AW(a:au):au->Prop|[]=>True|b::c=>aO a b.1=Q b.2/\AW a c
def AW.a{b}:∀{e},AW b e->∀g v,aO e g=Q v->aO b g=Q v|[],_,k,v,i=>by cases i|(j,m)::l,f,h,v,c=>by rw[cT]at c;cases d:aw h j with|true=>cases d▸c;have:=b8 d;subst this;exact f.1|false=>rw[d]at c;exact f.2.a h v c
def b0.e{n m k l j i}(h:b0 n m k j i)(o:AW k l):b0 n m l j i:=⟨⟨h.b.1,λp v q=>h.b.2 p v<|o.a p v q⟩,h.d⟩
def ES{d a c k b j i g f h}(o:aZ j g f b i)(l:b0 a h c [] f)(e)(n:NX (sC e<|.a N a d c [] b)=K)(m:Hu (sC e<|.a N a d c [] b)=[])(p:AW (HD<|sC e<|.a N a d c [] b) k):d.wpIn (bt Z) 0 T (λu t y=>u=.normal/\∃q,fo b.f (B6<|sC e<|.a N a d c [] b).f f q/\aZ j g q (B6<|sC e<|.a N a d c [] b) y/\b0 a t k [] q) h i:=by let r:=T8 e _ _<|akP n;refine ia ((m▸r) Z j g f i h J o l) ?_;rintro a z b⟨rfl,s,w,x,v⟩;exact⟨J,s,w,x,v.e p⟩
def Yz{d a c k b j i g f h}(o:aZ j g f b i)(l:b0 a h c [] f)(e)(n:OG (sC e<|.a N a d c [] b)=K)(m:Hu (sC e<|.a N a d c [] b)=[])(p:AW (HD<|sC e<|.a N a d c [] b) k):d.wpIn (bt Z) 0 T (λu t y=>u=.ret/\∃q,fo b.f (B6<|sC e<|.a N a d c [] b).f f q/\aZ j g q (B6<|sC e<|.a N a d c [] b) y/\b0 a t k [] q) h i:=by let r:=T8 e _ _<|anP n;refine ia ((m▸r) Z j g f i h J o l) ?_;rintro a z b⟨rfl,s,w,x,v⟩;exact⟨J,s,w,x,v.e p⟩
def IE{e a c b}(d:b0 e a c [] b):a.defers=[]:=by have:=d.d;rw[g7,hJ]at this;exact this.symm
def G9{ha z hb t h n d s m f g e b y v o c x}(a:aZ ha t h d z)(p:d.a e=Q (.a [.k y,.k v,.h b]))(i:d.a b=Q (.d o c))(r:h e=Q f)(k:h b=Q g)(l:aZ z [f.1,g.1] n s hb)(hd:s.a 0=Q (.a [.k y,.k v,.h 1]))(he:s.a 1=Q (.d o x))(hc:n 0=Q f)(u:n 1=Q g)(w:m.f=d.f)(q:∀hf,m.a hf=if hf=b then Q (.d o x)else d.a hf):aZ ha t h m hb:=by
 let⟨z,x,⟨hg,hf,t,hb⟩,_⟩:=l.b 0 _ hd;rw[hc]at x;cases x;let⟨o,h,ha,_⟩:=l.b 1 _ he;rw[u]at h;cases h;let⟨_,y,_,z⟩:=a.b e _ p;rw[r]at y;cases y;let⟨_,n,_,y⟩:=a.b b _ i;rw[k]at n;cases n;let x:∀(c:Nat)(h:P),m.a c=Q h->∃n,d.a c=Q n:=λc d s=>by rw[q]at s;by_cases o:c=b;subst o;exact⟨_,i⟩;rw[ak o]at s;exists d
 refine⟨a.c.e l.c<|λc o=>?_,w▸a.i,λd c=>?_,λd he c=>?_,λd j hh hi m hd c s h hc n=>?_⟩;simp[or_false]at o;obtain rfl|rfl:=o;exact z;exact y;rw[w]at c;exists(a.d d c).1;rw[q,ak (λw=>by have:=a.k i;omega)];exact(a.d d c).2;rw[q]at c;by_cases n:d=b;subst n;rw[aC J]at c;cases c;exists g,k,ha;rw[ak n]at c;by_cases q:d=e;subst q;rw[p]at c;cases c;refine⟨f,r,⟨hg,hf,?_,hb⟩,z⟩;simp[bm,aT,u,k]at t⊢;exact t;let⟨m,h,w,u⟩:=a.b d he c;refine⟨m,h,?_,u⟩;rw[l.c.b m.1 (a.nb c h)<|λt=>?_];exact w;simp[or_false]at t;obtain l|l:=t;exact q<|a.a d e _ _ m f c p h r l;exact n<|a.a d b _ _ m g c i h k l;let⟨f,b⟩:=x d hh c;let⟨g,e⟩:=x j hi s;exact a.a d j f g m hd b e h hc n
def YP{c:aA}{b:Nat}{d:P}(e:c.a b=Q d)(a):c.a a=if a=b then Q d else c.a a:=by by_cases f:a=b;subst f;rw[aC J,e];rw[ak f]
def Ij:S (au×aA)->aJ|Q _=>K|Z=>N
def EZ:S (au×aA)->au|Q a=>a.1|Z=>[]
def xs:S (au×aA)->aA|Q a=>a.2|Z=>⟨0,.a⟩
def O3{a}(b:Ij a=K):a=Q (EZ a,xs a):=by obtain _|a:=a;cases b;rfl
section
variable{w:aD}{z:bv ah}{i y t:Nat}{r:W Nat}{s:ah}{p:aX}{o n:ap}{m:W Nat}{q:bs}{u:au}{l:W bz}{x:aA}{k:bR->aX->ap->Prop}
def anv{d hg a b c}(t)(hd:fX z.size=r++[t])(v:Dy z r (z.toList.take t))(hb:z[t]?=Q s)(ha:s.guard=Z)(j:s.dst=Z)(hc:s.op=.send d hg)(hf:Ij (l9 w y (z.toList.take t) u x)=K)(h:al (EZ<|l9 w y (z.toList.take t) u x) d=Q (.h a))(e:(xs<|l9 w y (z.toList.take t) u x).a a=Q (.d b c))(hh:c<b)(he:aZ o m q x n)(g:b0 y p u l q)(f:∀hj hq hi,fo x.f (xs<|l9 w y (z.toList.take t) u x).f q hi->aZ o m hi ((xs<|l9 w y (z.toList.take t) u x).c a<|Q<|.d b<|c+1) hq->b0 y hj (EZ<|l9 w y (z.toList.take t) u x) l hi->k .normal hj hq):(Kn i z N).wpIn (bt Z) 0 w k p n:=by
 obtain⟨hk,h1,hr,hv,hs,hp,hm⟩:=Jm _ r v (O3 hf) he g;obtain⟨hy,ho,⟨hx,h0,hz,ht,hu⟩,_⟩:=hp.b a _ e;have hn:=hm.a h;rw[aT,ho,dD,hJ]at hn;have hw:ls s (tb z hk.tmps)=K:=by rw[ls,ha]
 have hl:=apv (w:=w) (u:=[]) hb hw hc hn.symm ht L;refine Ov (hd▸hv.a (j▸hl))<|f hk _ hr hs ?_ hm;exact hp.e e ho _ _ ⟨_,_,_,J,by rw[Array.size_push,hu]⟩
def ant{d}{c h e a:Nat}{b}(hg:fX z.size=0::r)(hc:Dy z r (z.toList.drop 1))(he:z[0]?=Q s)(hd:s.guard=Z)(hb:s.dst=Q a)(ha:cc a y=K)(hf:s.op=.select #[⟨d,Z,e⟩] N)(hi:kL w e=Q b)(v:al u d=Q (.h c))(t:x.a c=Q (.d h 0))(hh:Ij (l9 w y (z.toList.drop 1) ((a,.c [.k<|ju<|-1,.k<|.bool N,.k b])::u) x)=K)(g:aZ o m q x n)(f:b0 y p u l q)(j:∀hk ho hj,fo x.f (xs<|l9 w y (z.toList.drop 1) ((a,.c [.k<|ju<|-1,.k<|.bool N,.k b])::u) x).f q hj->aZ o m hj (xs<|l9 w y (z.toList.drop 1) ((a,.c [.k<|ju<|-1,.k<|.bool N,.k b])::u) x) ho->b0 y hk (EZ<|l9 w y (z.toList.drop 1) ((a,.c [.k<|ju<|-1,.k<|.bool N,.k b])::u) x) l hj->k .normal hk ho):(Kn i z N).wpIn (bt Z) 0 w k p n:=by
 obtain⟨h1,hv,⟨h0,h3,h2,hu,hx⟩,_⟩:=g.b c _ t;have hs:=P8 hx;subst hs;have hm:=f.a v;rw[aT,hv,dD,hJ]at hm;have hy:ls s (tb z p.tmps)=K:=by rw[ls,hd]
 have hl:=apt (u:=r) he hy hf hi hm.symm hu;rw[hb]at hl;obtain⟨hq,hz,hp,hn,ht,hw,hr⟩:=Jm _ r hc (O3 hh) g<|f.f ha J;rw[eF]at hn;exact Ov (hg▸hl.a hn)<|j hq hz hp ht hw hr
end
section
def OO{c:W X}{b d:aA}{v:X}(a:Jv c b=Q (v,d)):jH T (.b 236 c b) (.b v d):=by
 unfold Jv at a;split at a;rename_i e;split at a;rename_i h m u k;split at a;rename_i i n e;refine⟨⟨_,abI,M⟩,λf p t r q g d=>?_⟩;obtain⟨o,j,s,l,c,q,r,rfl,y,z,f⟩:=MP g k e d;refine Fq abI J C ?_;let x:=Mq (b:=16) (c:=uh o j) (a:=o) L J;refine xE<|ia (ES (k:=[(0,.a 0 0),(10,R<|ao m h)]) f x 20 M M ⟨M,M,C⟩) ?_;rintro x w d⟨rfl,o,f,s,j⟩;let l:=(eh<|j.a (j:=.tmp 10) J);refine wpIn_cond_split l (λm=>?_)<|λm=>?_;rw[m,b4]at a;cases l:cc n i with|false=>cases l▸a|true=>rw[l]at a;cases a;refine anv (r:=[0,1,2,3,4]) (a:=1) (b:=i) (c:=n) 5 J ⟨av,av,av,av,av,C⟩ J J J J M M M (by simpa using l) s j ?_;intro u n t p i w;exact XV (h:=Ey _) aI (G9 g k e q r i M M ((f.a p).2.2 0<|.inl (by show 0<2;omega)) ((f.a p).2.2 1<|.inl (by show 1<2;omega)) J<|λn=>b.b (g.m e) n _) (IE w) (a:=.tuple #[]) J J (λb=>M)
 rw[m]at a;cases a;apply wpIn_skip;exact XV (h:=Ey _) aI (G9 g k e q r s M M (f.2.2 0<|.inl (by show 0<2;omega)) (f.2.2 1<|.inl (by show 1<2;omega)) J<|YP e) (IE j) (a:=.tuple #[]) J J (λg=>M);cases a;cases a;cases a
end
section
def XY{d:W X}{b c:aA}{v:X}(a:Pw d b=Q (v,c)):jH T (.b 352 d b) (.b v c):=by unfold Pw at a;split at a;rename_i h;split at a;rename_i k h s m;split at a;rename_i l h;cases a;refine⟨⟨_,KE,M⟩,λu e k q n p d=>?_⟩;obtain⟨j,u,f,x,w,n,q,rfl,r,t,o⟩:=MP p m h d;refine Fq KE J C ?_;let x:=Mq (b:=10) (c:=uh j u) (a:=j) L J;refine xE<|ia (ES (k:=[(0,.a 0 0)]) o x 20 M M ⟨M,C⟩) ?_;rintro i d y⟨rfl,w,e,g,t⟩;refine xE<|ia (ES (k:=[(6,.h 1)]) g t 20 M M ⟨M,C⟩) ?_;rintro o g z⟨rfl,x,f,r,u⟩;refine xE<|ant (r:=[1,2]) (c:=1) (h:=l) (a:=7) J ⟨av,av,C⟩ J J J J J (b:=.agg #[]) M J M M r u ?_;intro j s y i l w;refine ia (Yz (k:=[(2,R N)]) l w 20 M M ⟨M,C⟩) ?_;rintro l r d⟨rfl,z,j,s,g⟩;let o:=(e.a f).a<|i.a j;let y:=o.2.2 0<|.inl (by show 0<2;omega);let t:=G9 p m h n q s M M y (o.2.2 1<|.inl (by show 1<2;omega)) J<|YP h;refine xb aI (Ey _) [] (a:=b) J t (by rw[IE g];rfl) λp c=>?_;let⟨f,i,b⟩:=BY (y:=T) (b:=f352) (a:=[R N]) (n:=10) (t:=[(2,R N)]) (q:=r) c ⟨g.b.1,λq v e=>by let⟨f,i,m⟩:=g.b.2 q v e;rw[cT]at e;cases n:aw q 2 with|false=>cases n▸e|true=>cases n▸e;exists f,i⟩ M;exists f,b,f,k,J,fo.b _ _,i;cases a;cases a;cases a
end
def agc:G2 T Mj:=λb h g i v j a f=>by rw[Mj]at a;cases c:aw b 131 with|true=>cases c▸a;have:=b8 c;subst this;exact U9 f|false=>rw[c]at a;cases d:aw b 236 with|true=>cases d▸a;have:=b8 d;subst this;exact OO f|false=>rw[d]at a;cases e:aw b 352 with|true=>cases e▸a;have:=b8 e;subst this;exact XY f|false=>cases e▸a
def qq(a:Nat):fG:=OH T Mj ML (HB T) a
def AT(a:Nat):rv T (qq a):=OK aI agc D9 (λ_ b=>Vw bC aI b) a
section
variable{z w y s u:Nat}{x t:Int}
def agw{a b d}(c:kW a z b d)(e:∀l,z<=l->b l=Z):gx a z b d=b:=by
 funext f;rw[gx];by_cases g:f∈a;rw[aC g];let j:a[a.idxOf f]?=Q f:=by rw[e7 (JX g),JW]
 let⟨o,k⟩:=c.b _ f j;let⟨p,i,m⟩:=c.a _ o k;cases j▸i;rw[k,m];rfl;rw[ak g];by_cases h:f<z;rw[aC h];rw[ak h,ak (by rw[c.f];omega),e f L]
def Wl{e g c d a b f v}(h:jH e (.b g f<|fg c d) (.b v<|fg c d)):c6 e g (eS (bQ [a,b] z) f) z [(a,eR (bQ [a,b] z) c),(b,eR (bQ [a,b] z) d)] λt r q=>t=dv (bQ [a,b] z) v/\r=z/\q=[(a,eR (bQ [a,b] z) c),(b,eR (bQ [a,b] z) d)]:=by
 refine⟨h.1,λp k o=>?_⟩;let n:kW [a,b] z p (fg c d):=by refine⟨J,by rw[bi];simp,by simp[k.f (i:=0) (j:=1) J J L],λj e i=>?_,λj x i=>?_⟩;rw[pO]at i;by_cases l:j=1;subst l;cases i;exact⟨b,J,k.a (l:=1) J⟩;rw[ak l]at i;by_cases m:j=0;subst m;cases i;exact⟨a,J,k.a (l:=0) J⟩;rw[ak m]at i;cases i;match j,i with|0,_=>exact⟨c,by rfl⟩|1,_=>exact⟨d,by rfl⟩
 apply(V3 h n).a;rintro a w u⟨rfl,rfl,rfl⟩;rw[agw n o];exact⟨_,bq,bw.h k o⟩
def amw:c6 T 352 [.a w 0] z [(w,.a [V x,V t,.h y]),(y,.d u 0)] λc b a=>c=R N/\b=z/\a=[(w,.a [V x,V t,.h y]),(y,.d u 0)]:=Wl (c:=.a [V x,V t,.h 1]) (d:=.d u 0) (f:=[.a 0 0]) (v:=R N)<|XY M
def YK(a:t≠x):c6 T 236 [.a w 0] z [(w,.a [V x,V t,.h y]),(y,.d u s)] λf c b=>f=.c []/\c=z/\b=[(w,.a [V x,V t,.h y]),(y,.d u s)]:=by refine Wl (c:=.a [V x,V t,.h 1]) (d:=.d u s) (f:=[.a 0 0]) (v:=.c [])<|OO ?_;show(bif ao t x then _ else _)=_;rw[jz.2 λd=>a<|dc.1 d];rfl
def ahM{a:Nat}(b:(a)+1≠x)(c:a<=100000):c6 T 384 [.a w 0] z [(w,.a [V x,B a,.h y]),(y,.d u s)] λf e d=>f=.c []/\e=z/\d=[(w,.a [V x,B<|a+1,.h y]),(y,.d u s)]:=by refine io func384 J ntmps384 λ_ _ _ _=>?_;refine bO 6 [0]<|dZ (v:=B<|a+1) J (gP J J J L) J ?_;refine I 7 [0]<|sy [0,1] [1,0] aI J J J J (YK b) J<|I 1 [] ?_;refine eg [0,1] (.inl J) aI J A<|bq
end
section
variable{v:X}{z:W X}
def zm:∀{z j},j<Y z->∀v,gR z (0+j*1) [v]=z.set j v:=by intro z j a v;rw[gR,eK,xN,de,hH,eK,asX,aC a];simp
end
section
variable{z:Nat}
def akh{a}(b:0≠a):c6 T 128 [V a] z [] λe d c=>e=.a (z+1) 0/\d=z+2/\c=[(z+1,.a [V a,V 0,.h z]),(z,.d 1 0)]:=by refine io func128 J ntmps128 λ_ _ _ _=>?_;refine cD<|aq 1 [] [(2,be)] []<|fx<|e2 5 [] [(3,X.a (z+1) 0)] [] (z+2) [((z+1),P.a [V a,V 0,X.h z]),(z,P.d 1 0)] []<|fx<|aq 1 [] [(8,X.a (z+1) 0)] []<|sy [0,1] [1,0] aI J J J J (YK b) J<|fx<|aq 2 [] [(2,X.a (z+1) 0)] []<|cb<|ev<|eg [0,1] (.inr J) aI J A<|bq
end
def NV:W ac:=[⟨#[79,98,106,101,99,116]⟩,⟨#[84,104,114,111,119,97,98,108,101]⟩,⟨#[69,114,114,111,114]⟩,⟨#[78,111,67,108,97,115,115]⟩,⟨#[66,97,100,70,111,114,109]⟩,⟨#[67,105,114,99,117,108,97,114]⟩,⟨#[66,97,100,67,108,97,115,115]⟩,⟨#[78,111,70,105,101,108,100]⟩,⟨#[78,111,77,101,116,104,111,100]⟩,⟨#[66,97,100,73,110,105,116]⟩,⟨#[65,114,105,116,104]⟩,⟨#[78,117,108,108,82,101,102]⟩,⟨#[66,97,100,67,97,115,116]⟩,⟨#[66,111,117,110,100,115]⟩,⟨#[66,97,100,83,105,122,101]⟩,⟨#[72,101,97,112]⟩,⟨#[68,101,101,112]⟩]
def hW(j:Nat):ac:=NV[j]?.getD ⟨#[]⟩
def pl:Nat->Nat|0=>0|1=>0|2=>1|_=>2
def Zb(j:Nat):ac:=match j with|0=>⟨#[]⟩|j=>hW (pl j)
abbrev U4(a:ac)(b:X):P:=.a [O a,b,O ⟨#[]⟩,O ⟨#[]⟩,ab,ab,V 1,ab,ab,ab,ab]
def O4(a:Nat):Nat->X|0=>be|j+1=>.a (a+2*pl (j+1)) 0
def im(a:Nat):Nat->W (ac×X)|0=>[]|j+1=>iZ (hW j) (.e 323<|.b [.a (a+2*j) 0]) (im a j)
def iF(a:Nat):Nat->U|0=>[]|j+1=>(a+2*j,U4 (hW j)<|O4 a j)::iF a j
def jM:W X:=NV.map λa=>O a
section
variable{x y z:Nat}{w u t s r q p o n m l k i h g f:X}
def Ev:S fe:=qq 200<|.b 237 []<|jq []
def akA:Eo Ev=K:=M
def akB:c6 T 237 [] z [] λg e d=>g=.d z 0 17 0/\e=z+1/\d=[(z,.b 9 1 17 jM)]:=by
 let f:=wU (z:=[]) (y:=z) (AT 200 _ _<|NB akA) J A M M;let c:dv (bQ [] z) (xn Ev)=.d z 0 17 0:=M
 let a:z+((vA Ev).f-Y ([]:W Nat))=z+1:=M
 let b:EE [] z (vA Ev)=[(z,.b 9 1 17 jM)]:=M
 rw[Ev]at c a b;rwa[c,a,b]at f
def ma{j a}(b:qq 400 (.b 238 [O<|hW j]<|jq [])=Q (.b (.c [O a,R K])<|jq [])):c6 T 238 [O<|hW j] z [] λe d c=>e=.c [O a,R K]/\d=z/\c=[]:=wU (z:=[]) (AT 400 _ _ b) J A M M
def O5:∀{j},j<17->c6 T 238 [O<|hW j] z [] λd b a=>d=.c [O<|Zb j,R K]/\b=z/\a=[]|0,_=>ma M|1,_=>ma M|2,_=>ma M|3,_=>ma M|4,_=>ma M|5,_=>ma M|6,_=>ma M|7,_=>ma M|8,_=>ma M|9,_=>ma M|10,_=>ma M|11,_=>ma M|12,_=>ma M|13,_=>ma M|14,_=>ma M|15,_=>ma M|16,_=>ma M|j+17,c=>aE c L
def VC:∀{j},j<16->cp (Zb<|j+1) (im z<|j+1)=Q (.e 323<|.b [.a (z+2*pl (j+1)) 0])|0,_=>M|1,_=>M|2,_=>M|3,_=>M|4,_=>M|5,_=>M|6,_=>M|7,_=>M|8,_=>M|9,_=>M|10,_=>M|11,_=>M|12,_=>M|13,_=>M|14,_=>M|15,_=>M|j+16,a=>aE a L
def Xy{j}(a:j<17):jM[0+j*1]?=Q (O<|hW j):=by rw[eK,xN,jM,hW,cv,e7 (by exact a)];rfl
def apl{b a}(c:cp b a=Z):c6 T 239 [.a x 0,O b] z [(x,.a [w,u,t,s,r,q,p,o,n,.g y,m,l,k,i,h,g,f]),(y,.c a)] λv e d=>v=be/\e=z/\d=[(x,.a [w,u,t,s,r,q,p,o,n,.g y,m,l,k,i,h,g,f]),(y,.c a)]:=by refine io FT J Q6 λ_ _ _ _=>?_;refine cD<|aq 1 [] [(4,be)] []<|kZ<|cD<|aq 5 [0] [(9,X.g y),(10,O b)] []<|yu (hl:=1) (y:=325) (b:=.nilIface) (v:=bN) J J M M J J J (λ_ j=>by cases j<;>rfl) J (by rw[c];rfl) J<|cb<|g1<|cD<|aq 3 [] [(13,R N),(14,X.k<|.agg #[.pointer Z])] []<|cb<|l0 J<|eB<|ef<|l2<|aq 1 [] [(4,be)] []<|cb<|ev<|eg [0,1] (.inr J) aI J A<|bq
end
abbrev uj:X:=.e 485<|.b []
def mZ(a:W (W X)):Nat->W X|0=>[]|b+1=>mZ a b++((a[b]?.getD [])++[uj])
def GV(a:W X):Prop:=∃b c d e f g h,a=[b,c,d,e,f,g,h]/\a.all aB=K
def Up{a}(b:∀g∈a,GV g):∀c,c<=Y a->Y (mZ a c)=c*8|0,_=>rfl|e+1,o=>by let d:=e7 (show e<Y a by omega);let⟨h,i,j,k,l,m,n,f,_⟩:=b _<|bl d;rw[mZ,d,bJ,Up b e L,FH,f];simp[hH];omega
section
variable{z:Nat}
def Hl{a}(b:cY a.size 4000000=K):c6 T 131 [O a] z [] λe d c=>e=O a/\d=z/\c=[]:=wU (z:=[]) (s:=[O a]) (U9 (d:=jq []) (v:=O a) (by show(bif cY a.size 4000000 then Q (O a,jq [])else Z)=_;rw[b];rfl)) J A M M
end
section
variable{z:Nat}
def Pm:c6 T 59 [bN] z [] λc b a=>c=.c [.b [V 0,V 0],V 0]/\b=z+1/\a=[]:=by refine io func59 J ntmps59 λ_ _ _ _=>?_;apply bO 34 [0];refine g4 (hb:=0) (m:=[(2,.a 0 0),(3,dd<|V 0)]) (e:=[.b [V 0,V 0],V 0]) [] (.inr J) aI J ⟨J,by rfl,C⟩ M A<|bq
end
def gn(v:bh):W PanicEntry:=[{v:=v,recovered:=N}]
def LW(b:bs)(a:Nat)(i:ap)(c:W Nat)(e:W Nat)(d:Nat->S P)(g:bh)(f:Ending)(h:ap):Prop:=∃l k j,f=.panicked (gn g)/\fq b a j l/\bw e a d [] k/\cR i c j l k h
section
variable{h:aD}{b:S Nat}{q:Nat}{a:bv ah}{z k:ap}{y:W Nat}{i x:bs}{r w:Nat}{u:W Nat}{t f:Nat->S P}{p:U}{s:au}{m:W bz}{o:aX}{e:ah}{p0:W ah}{n:bR->aX->ap->Prop}{d p1:ek}{c:bR}{l:bh}{g:W PanicEntry}
def DI(a:br q z y x w u t n (.panic g) s m r p):br q z y x w u t (Exit.then (p1.wpIn (bt b) 0 h n) n) (.panic g) s m r p:=a
def afQ{a}(b:br q z y x w u t n (.panic g) s m r p):br q z y x w u t (Exit.then a n) (.panic g) s m r p:=b
def GM{b}(a:br q z y x w u t n (.panic g) s m r p):br q z y x w u t (pu b n) (.panic g) s m r p:=a
def TO{d v}(hb:bx s a e.guard=Q K)(g:e.op=.panic d)(hc:al s d=Q v)(ha:∀i,aT i v=Q l)(j:∃he hf,l=.iface he hf)(hd:br q z y x w u t n (.panic<|gn l) s m r p):aH h b q a z y x w u t n (e::p0) s m r p:=λf hf i k o hh hg he=>by simp[fA,ft he hb];existsλ_ _=>C;rw[fC _ _ _ (λhb c=>by cases g▸c)];let hb:=he.a hc;rw[ha i]at hb;cases hb;let⟨hb,hc,ha⟩:=j;(let j:(aY o.eval e).run h k=.halt (.panic<|o.eval d) k:=by simp[aY,g];rw[ha];rfl);rw[j];exact hd o k ⟨f,i,hf,hh,hg,he⟩
def afN{a}:br q z y x w u t (gE (bt Z) 0 h a<|LW x w z y u t l) (.panic<|gn l) s [] r p:=λo k⟨f,i,b,g,e,c⟩=>by(let d:o.defers=[]:=by have:=c.d;simp only[g7,hJ]at this;exact this.symm);show kP (bt Z) 0 h a o.tmps _ o.defers (.panicking<|gn l) k;rw[d];exact(show LeavesIn (bt Z) 0 h a o.tmps (LW x w z y u t l) [] (.panicking<|gn l) k from⟨r,f,i,J,g,⟨⟨nofun,tc⟩,b.c,nofun,b.d⟩,e⟩)
end
section
variable{w x:ap}{u:W Nat}{y:bs}{t s:Nat}{r:W Nat}{q z:Nat->S P}{p:U}
def cR.i(s:cR w u y t z x){p hc j}(v:z p=Q hc)(ha:y p=Q j)(r)(q)(hb:e1 y j q (Q r)):cR w u y t (dU z p q) (x.putObj j.1 r):=s.f (q:=x.putObj j.1 r) v ha bq PK (λ_ p=>JH p) q<|World.putObj_heap_same (s.h v ha)▸hb
def bw.o{j v}(u:bw r s q ((j,v)::p) z)(t):bw r s q ((j,t)::p) (dU z j t):=have:=u.g (r:=0) J t;this
end
def tO(a:Nat->S P)(b:Nat):Nat->S P:=λc=>if c=b then Z else a c
def ND{d c b e}(a:tO d c b=Q e):b≠c/\d b=Q e:=by rw[tO]at a;by_cases f:b=c;rw[aC f]at a;cases a;rw[ak f]at a;exists f
def WR{b c a}(d:a≠c):tO b c a=b a:=ak d
section
variable{g:aD}{h:Nat}{s r:ap}{q:W Nat}{p m:bs}{o y:Nat}{w:W Nat}{n u:Nat->S P}{x:U}{i e:au}{f:W bz}{t:aX}{d:ek}{z:bR}
def cR.k(t:cR s q p o u r){v ha w}(x:u v=Q ha)(y:p v=Q w)(hb):cR s q p o (tO u v) (r.putObj w.1 hb):=by let⟨hc,hb,_,hd⟩:=t.b v _ x;rw[y]at hb;cases hb;refine⟨t.c.e ⟨J,J,J,PK▸bd _,λhc _ hb=>JH<|λz=>hb (by rw[z];exact eY.2 J)⟩ (λd he=>by cases eY.1 he;exact hd),λhb hc=>⟨(t.a hb hc).1,?_⟩,λhb hf hc=>?_,λhb j hf hm he hl hc hj hd hk z=>?_⟩;rw[tO];split;rfl;exact(t.a hb hc).2;let⟨hh,hg⟩:=ND hc;let⟨he,hd,hn,hi⟩:=t.b hb hf hg;refine⟨he,hd,?_,hi⟩;rwa[JH<|λz=>hh<|t.d hb v hf ha he w hg x hd y z];exact t.d hb j hf hm he hl (ND hc).2 (ND hj).2 hd hk z
def bw.l(p:bw w y n x u){v q ha}(s:x[v]?=Q (q,ha)){r}(t:(v::r).Nodup):bw w y n (bp x r) (tO u q):=by let hb:∀v∈bp x r,v.1≠q:=λq v=>let⟨j,q,r⟩:=us.1 v;p.a.f r s<|λz=>(gi.1 t).1<|z▸q;refine⟨⟨λr q=>?_,BN p.a (gi.1 t).2⟩,λhc hd ha v=>?_,λr q=>p.b r<|it q,p.d⟩;rw[WR<|hb r q];exact p.a.b r<|it q;rw[WR<|p.n (bl s) ha v];exact p.c hc hd ha v
def GN{d f}{b:X->Nat->U->Prop}{w a c}(k)(ha:z=.normal\/z=.ret)(hc:fc g)(j:x[a]?=Q (c,.f))(hd:tW i d.results.toList=Q f)(hb:(a::k).Nodup)(l:b (dL f) o (bp x k)):br h s q m y w n (gE (bt Z) 0 g d<|hP m y s q λv hh hg=>∃he,b v hh he/\bw w y n he hg) z i [.a c] o x:=λt r⟨u,p,hi,hv,hl,hj⟩=>by have hk:=hi.a.a j;obtain⟨ho,hm,hu,_⟩:=hl.b c _ hk;(have hs:t.defers=[{target:=.collected ho.1,args:=#[]}]:=by have:=hj.d;simp[g7,jk,hm]at this;simpa using this.symm);(have hn:kP (bt Z) 0 g d t.tmps (hP m y s q λv hh hg=>∃he,b v hh he/\bw w y n he hg) t.defers .returning r:=by rw[hs];refine⟨(λhf=>by cases hf),.inl ⟨ho.1,_,J,run_takeDeferred hu,?_⟩⟩;obtain⟨e,hp,hq⟩:=I1 o _ f hd;have hr:b0 h {t with defers:=[]} i [] p:=⟨hj.b,J⟩;exact wN hc ⟨J,az,az,(λa hx hf=>by cases hf),(λa hw hf=>by cases hf)⟩ hp hq (by rw[tV az];exact⟨_,l,hi.l j hb⟩) hv (hl.k hk hm<|.deferred Z) hr);obtain rfl|rfl:=ha;(·exact hn);·exact hn
def tA{a}(b:mq i a):br h s q m y w n (λz t r=>z=.normal/\kA h s q m y w n a f o x t r) .normal i f o x:=λt r⟨u,p,e,j,g,c⟩=>⟨J,u,p,e,j,g,⟨⟨c.b.1,λd v k=>c.b.2 d v<|b.a d v k⟩,c.d⟩⟩
end
def DQ(b:aD)(c:cV)(a:bh):Prop:=(∃f,b.funcs[c]?=Q f/\f.body.isNone=N)/\∀(e)(d)(h)(k),e.heap[d]?=Q (.cells #[k] h (0,0))->vV (bt Z) 0 b c #[.pointer (Q ⟨d,0,Z⟩)] (.panicking<|gn a) e λg i j=>(∃v,g=.returned v)/\i=.panicking [{v:=a,recovered:=K}]/\j=e.setRow d #[a]
section
def ank(b)(a):DQ T 102 (.iface b a):=by
 refine⟨⟨_,Kx,J⟩,λd c m j e=>?_⟩;let f:d.cell? ⟨c,0,Z⟩=Q j:=by simp[rZ,e]
 let i:d.frozen? ⟨c,0,Z⟩=N:=by simp[JG,e]
 let g:d.setCell ⟨c,0,Z⟩ (.iface b a)=d.setRow c #[.iface b a]:=I8 e az;rw[<-g];refine yF Kx J λl k h=>?_;apply Cy;simp[Cx,go_sem,Cw,h,gn,acf,f,i,zt,uo,acp]
end
section
variable{z:aD}{k:Nat}{o y f:ap}{n:W Nat}{w i:bs}{s u:Nat}{r:W Nat}{q x:Nat->S P}{p m:U}{l h:au}{t:aX}{g:bR}
def T0{e hd}{ha:X->Nat->U->Prop}{d}{a j:Nat}{b he:X}{c:bh}{m:U}(hc:fc z)(hj:DQ z d c)(hk:∀w,aT w b=Q c)(hl:aB he=K)(hb:p[j]?=Q (a,.a [he]))(hf:iD (bQ [a] s) l h)(hi:hX z h (cm<|a6<|.a [b]) (aG e.results)=Q (bE hd))(hg:∀x,bw r u q (p.set j (a,.a [b])) x->bw r u q m x)(hh:ha (dL hd) s m):br k o n i u r q (gE (bt Z) 0 z e<|hP i u o n λv hl he=>∃hd,ha v hl hd/\bw r u q hd he) (.panic<|gn c) l [.b d [.a a 0]] s p:=λt y⟨x,w,hd,hv,hn,he⟩=>by let hl:=hd.a.a hb;let⟨ha,hp,⟨hm,hq,hr,ho⟩,_⟩:=hn.b a _ hl;obtain⟨hw,ht,hs,hm,rfl⟩:=jK.1 hr;simp[bm]at hm;cases hm;(let hm:t.defers=[{target:=.fn (.func d) #[.pointer (Q ⟨ha.1,0,Z⟩)],args:=#[]}]:=by have:=he.d;simp[g7,jk,bm,aT,hp]at this;simpa using this.symm);show kP (bt Z) 0 z e t.tmps _ t.defers (.panicking<|gn c) y;rw[hm];let⟨⟨hr,hm,hs⟩,ht⟩:=hj;let hu:=hc d hr hm;refine⟨(λhj=>by cases hj),.inr ⟨nofun,_,_,d,#[.pointer (Q ⟨ha.1,0,Z⟩)],J,?_,λ_ _=>C,?_⟩⟩;let d:(program).run z y=.ok z y:=rfl;simp only[invoke,callFunc,fN];rw[d];simp only[hF,hm,hu,hs,jt];simp;refine Qm (ht y ha.1 hq hw ho) ?_;rintro d hj f⟨⟨v,rfl⟩,rfl,rfl⟩;(let hj:cR o n w s (dU x a<|.a [b]) (y.setRow ha.1 #[c]):=by refine hn.f (q:=y.setRow ha.1 #[c]) hl hp bq (by simp) (λhm d=>?_) (.a [b]) ?_;rw[Cs,ux,ak<|λg=>d g.symm];(exists[c],hq,by simp[bm,hk w]);rw[Cs,ux,aC J,ho];rfl);let c:bw r u q (p.set j (a,.a [b])) (dU x a<|.a [b]):=hd.g hb _;let d:kW [a] s (dU x a<|.a [b]) (cm<|a6<|.a [b]):=rF<|ua ..;let a:b0 k {t with defers:=[]} l [] w:=⟨he.b,J⟩;exact wN hc d hf hi (by rw[tV (by rw[bi];simp)];exact⟨_,hh,hg _ c⟩) hv hj a
end
section
variable{z:au}{y:ah}{s r:Nat}{x w:dW}{u t:Int}{q:aD}
def IC{a}(c:y.op=.binOp .gtr s x w r)(d:al z x=Q (V u))(e:al z w=Q (V t))(b:aF t u=a):eb q z dT y=Q (R a):=by subst b;rw[eb,dt,c];simp[d,e,sO];rfl
def ID{a}(c:y.op=.binOp .lss s x w r)(d:al z x=Q (V u))(e:al z w=Q (V t))(b:aF u t=a):eb q z dT y=Q (R a):=by subst b;rw[eb,dt,c];simp[d,e,sO];rfl
def Bw{a b}(c:a<b):aF a b=K:=dK.2 c
def vn{a b}(c:¬a<b):aF a b=N:=jz.2 λd=>c<|dK.1 d
end
section
variable{z:Nat}
def akz{v}:c6 T 163 [v,R K] z [] λc b a=>c=.c []/\b=z/\a=[]:=by refine io func163 J ntmps163 λ_ _ _ _=>?_;refine bO 8 []<|eg [] (.inl J) aI J A ?_;exists J,J
end
section
variable{y:aD}{r:S Nat}{u:Nat}{t:bv ah}{q w:ap}{p:W Nat}{o n:bs}{m l:Nat}{k:W Nat}{i h:Nat->S P}{s:U}{x g:au}{f:W bz}{z:ah}{e:W ah}{d:bR->aX->ap->Prop}
def afp{hp hb b hg hi a hc c ha hf hr:Nat}{hh hd}(v:fH y b=Q (hg,hi))(j:ei y hb=Q b)(hm:bx x t z.guard=Q K)(he:z.op=.call ⟨.builtin .append,#[.tmp a,.tmp hc],#[hb,hb]⟩)(hn:aO x a=Q (.d c 0 ha 0))(ho:aO x hc=Q (.k<|.slice hh 0 hr))(hj:s[hp]?=Q (c,.b b hg hf hd))(hk:ha<=hf)(hl:bP u x z.dst (.d c 0 ha 0)=Q g)(hq:aH y r u t q p n l k i d e g f m s):aH y r u t q p n l k i d (z::e) x f m s:=λh hf o w ha hp hg hb=>by simp[fA,ft hb hm];existsλ_ _=>C;rw[fC _ _ _ (λhd b=>by cases he▸b)];let b:=hb.a (j:=.tmp a) hn;let hd:=hb.a (j:=.tmp hc) ho;let⟨hc,hi,hm⟩:=iU b;let hn:=eh hd;let⟨ho,hc,hd,_⟩:=hg.b c _<|hf.a.a hj;rw[hi]at hc;cases hc;let⟨hu,hc,ht,ho,hr,c,hi,hj,hs⟩:=hd;let hc:=df hk c;rw[ei]at j;split at j;rename_i c hi;cases j;rw[fH]at v;split at v;rename_i hd c;(let hd:(aY ha.eval z).run y w=.ok (.value<|ha.eval<|.tmp a) w:=by refine xo he J ?_;rw[hm,hn];cases hh<;>simp[tg,cE hi,sizeOf,typeInfo,c,uA,uz,storeCells,loadCells,loadCellsFrom,hc]);rw[hd];exact hq h hf o w (ha.put z.dst<|ha.eval<|.tmp a) hp hg<|gD hb b hl;cases v;cases j
end
def Vl{a b}(c:cI a b):∀(f)(h g),pK a f h->pK b f g->pK a f g|[],_,[],_,_=>C|[],_,_::_,_,j=>j|_::_,_,[],_,k=>k|(q,v)::s,[],_::_,i,_=>i.elim|(r,v)::n,p::m,o::l,d,e=>⟨e.1,by rw[d.2.1,<-l6 c v _ d.2.1,e.2.1],Vl c n m l d.2.2 e.2.2⟩
def e1.b{e g}(d:cI e g){f i h}:∀{j},e1 e f j i->e1 g f j h->e1 e f j h|.a n,⟨h,i,k,_⟩,⟨l,g,s,w⟩=>⟨l,g,by rw[k,<-jL d n h k,s],w⟩|.b w f x o,⟨i,q,l,_⟩,⟨k,e,t,y⟩=>⟨k,e,by rw[l,<-jL d o i l,t],y⟩|.c f,⟨z,s,_,g⟩,⟨p,y,x,r⟩=>⟨p,y,x,Vl d f _ _ g r⟩|.d _ _,_,i=>i|.g _ _ _ _ _ _ _,⟨y,_,_,_,h,_⟩,⟨z,j,l,o,n,p⟩=>⟨z,j,l,o,⟨n.1,λw v r=>by let⟨o,t,_⟩:=h.2 w v r;let⟨m,j,g⟩:=n.2 w v r;exact⟨m,by rw[t,<-l6 d v o t,j],g⟩⟩,p⟩|.f,_,k=>k|.l r,⟨w,u,p,_⟩,⟨t,z,e,y⟩=>⟨t,z,by rw[p,<-d r w p,e],y⟩|.k q g t,⟨j,m,_⟩,⟨n,u,e⟩=>⟨n,by rw[m,<-jL d q j m,u],e⟩|.i _,_,l=>l|.h s _ _,⟨x,q,_⟩,⟨u,f,z⟩=>⟨u,by rw[q,<-d s x q,f],z⟩|.e _ _ _ _ _ _ _ _,⟨e,_,_,_,i,_⟩,⟨f,k,m,n,o,q⟩=>⟨f,k,m,n,⟨o.1,λx v s=>by let⟨r,u,_⟩:=i.2 x v s;let⟨p,m,h⟩:=o.2 x v s;exact⟨p,by rw[u,<-l6 d v r u,m],h⟩⟩,q⟩
