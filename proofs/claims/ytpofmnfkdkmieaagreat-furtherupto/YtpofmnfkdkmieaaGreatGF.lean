/- What is proved here: FurtherUptoSaid: for all classes, each script and each int of bulk at most 1048576 the statement Further gives true, and they read behind the call as they read before. -/
import Derived.Test.YtpofmnfkdkmieaaGreatGFU
set_option linter.all false
open Array renaming toList->aG
open Bool renaming false->N,true->K
open Go renaming joinedFacts->Fs
open Go.ChangeShapes renaming trodAll_cons->uD
open Go.OpenClaim renaming holds_of_cond->QF
open Go.OpenSpec renaming witness->QG
open Go.Proofs.Tryz renaming f10->ti,func10->QJ,prog->T
open Go.RowKit.Below renaming trod->vG
open Int renaming toNat->ad
open List renaming length->Y
open Option renaming none->Z,some->Q
open Option.some renaming inj->cx
set_option maxRecDepth 100000
set_option maxHeartbeats 4000000
noncomputable section
namespace Go.Proofs.YtpofmnfkdkmieaaGreat
open Go.Proofs.Tryz Go Go.ChangeAt Go.ChangeShapes Go.RowKit Go.WideShapes
def X2(a){b}(c:0<b):iY a b<b:=by rw[iY];let d:=Int.emod_lt_of_pos (if a<0 then-(a+1)else a) (b:=(b)) L;omega
structure rf(j l:a8):Prop where
 g:l.a=j.a
 k:l.e=j.e
 f:l.b=j.b
 e:l.c=j.c
 i:l.f=j.f
 h:j.d<=l.d
def La(a b:Int×ac×ag):Prop:=(a.1≠4->b=a)/\(a.1=4->sl a.2.2 b.2.2)
section
variable{y t q:ag}{z x:a8}{u s:Int×ac×ag}{w r:Nat}
def rf.b(j:rf z x)(y):fY z x y:=λl _ _=>by unfold gK;rw[j.g]
def rf.a(j:rf z x):dO x y w=dO z y w:=by let l:=Av (z:=y) (w:=y.m) (x:=id) (u:=y.e) (λ_ _=>rfl) j.f (a:=w);let m:=Av (t:=z) (z:=y) (w:=y.m) (x:=id) (u:=y.e) (λ_ _=>rfl) J (a:=w);rw[wx]at l m;exact l.trans m.symm
def rf.d(l:rf z x){j}:et x j y=et z j y:=by let m:=Am (z:=y) (w:=y.m) (x:=id) (u:=y.e) (λ_ _=>rfl) (a:=j)<|l.b _;let n:=Am (t:=z) (z:=y) (w:=y.m) (x:=id) (u:=y.e) (λ_ _=>rfl) (a:=j)<|fY.a _ _;rw[wx]at m n;exact m.trans n.symm
def rf.c(j:rf z x)(l:lW z y=Q t):lW x y=Q t:=by let m:=(Gs (u:=y.m) (w:=id) (λ_ _=>rfl) j.f j.e l<|j.b _).1;let n:=(Gs (u:=y.m) (w:=id) (λ_ _=>rfl) J J l<|fY.a z _).1;rw[wx]at m n;exact m.trans<|n.symm.trans l
def Se:∀{f y},fQ z f y=Q u->y.e<=z.d->u.2.2.e<=z.d|0,_,c,_=>by cases c|j+1,y,a,b=>by rw[fQ]at a;split at a;split at a<;>(cases a;exact b);split at a;cases a;exact b;next i=>let⟨t,d,e⟩:=ay.1 a;exact Se e (by rcases(LH d).2 with g|h<;>omega)
def Lg(a:rf z x):∀{o n y},fQ z o y=Q u->fQ x n y=Q s->y.e<=z.d->La u s|0,_,_,g,_,_=>by cases g|_+1,0,_,_,h,_=>by cases h|d+1,w+1,y,b,c,r=>by let k:=yk c;rw[fQ]at b c;split at b;(next l=>rw[aC l]at c;let j:=cx<|c.symm.trans b;refine⟨λ_=>j,λe=>?_⟩;split at b<;>(cases b;simp at e));next m=>rw[ak m]at c;split at b;cases b;exact⟨λf=>aE J f,λ_=>k⟩;next v=>have:=a.h;rw[ak L]at c;let⟨t,d,i⟩:=ay.1 b;rw[a.c d]at c;exact Lg a i c (by rcases(LH d).2 with p|q<;>omega)
def SZ(a:rf z x):∀{m l y},kU z w r m y=Q u->kU x w r l y=Q s->y.e<=z.d->La u s|0,_,_,c,_,_=>by cases c|_+1,0,_,_,c,_=>by cases c|m+1,l+1,y,c,e,d=>by have g:=Gq (y:=z) (z:=y) (a:=w);rw[kU]at c e;rw[a.a]at e;generalize dO z y w=b at c e g;let⟨n,o,t⟩:=b;have g:t.e=y.e:=g;cases n with|some n=>cases c;cases e;exact⟨λ_=>rfl,λ_=>.a _⟩|none=>let⟨⟨g,p,q⟩,h,d⟩:=ay.1 c;let⟨⟨j,i,l⟩,c,b⟩:=ay.1 e;have i:=Lg a h c L;have k:=Se h L;simp only at d b;by_cases j:g=4;subst j;(have f:u=(4,p,q):=by rw[ak A]at d;exact(cx d).symm);subst f;refine⟨λv=>aE J v,λ_=>(i.2 J).b ?_⟩;split at b;split at b;exact yk (z:=ga l w r [] Z) b;exact Gp b;cases b;exact .a _;have e:=i.1 j;cases e;split at d;(next f=>rw[aC f]at b;cases o with|true=>exact Lg a d b k|false=>exact SZ a d b k);next f=>rw[ak f]at b;cases d;cases b;exact⟨λ_=>rfl,λ_=>.a _⟩
def adE(c:rf z x){e d}(a:jd z e (es z)=Q u)(b:jd x d (es x)=Q s):La u s:=by
 have k:es x=es z:=by unfold es;rw[c.g,c.i]
 have f:(et z z.e<|es z).2.e=(es z).e:=by have a:=Am (t:=z) (z:=es z) (w:=(es z).m) (x:=id) (u:=(es z).e) (λ_ _=>rfl) (a:=z.e)<|fY.a _ _;rw[wx]at a;rw[show(et z z.e<|es z).2=_ from b9 Prod.snd a];rfl
 have l:(es z).e<=z.d:=eL _;rw[jd]at a b;rw[c.k,k,c.d]at b;generalize et z z.e (es z)=h at a b f;let⟨v,t⟩:=h;have f:t.e=(es z).e:=f;cases v with|b w=>simp only at a b;split at a;(next r g=>rw[g]at b;exact SZ c a b L);next g=>rw[g]at b;cases a;cases b;exact⟨λ_=>rfl,λ_=>.a _⟩|c i j=>cases a;cases b;exact⟨λ_=>rfl,λ_=>.a _⟩|d i j=>cases a;cases b;exact⟨λ_=>rfl,λ_=>.a _⟩|a m=>cases a;cases b;exact⟨λ_=>rfl,λ_=>.a _⟩
end
def ard:ownKnob T.godebug=Z:=M
def PC:laidOutB T=K:=M
def ZZ:ti.params=#[52,56,3]:=M
def are:ti.resultTypes=#[4]:=M
section
variable{w:W (ac×ac)}{o:ac}{n:W Int}{z y u t s x i m r h:Int}{l k:ac}{q p:W dX}
structure aeR(z y s x m r:Int)(l k:ByteArray)(q p:List dX):Prop where
 c:Y q<=400000
 d:x<=z
 e:r<=y
 b:s≠4->s=m/\l=k/\x=r/\q=p
 a:s=4->x=z/\x<=r/\∃f,p=q++f
def aiY(b:DR w o n z u t s l x q i)(a:DR w o n y u t m k r p h)(c:0<=z)(d:z<=y)(e:y<=600):(i=3/\h=3)\/(i=0/\h=0/\aeR z y s x m r l k q p):=by
 have v:pk (Y w) z u t=pk (Y w) y u t:=by unfold pk;rw[show aF z 0=N from by rw[<-mf,dK];omega,show aF y 0=N from by rw[<-mf,dK];omega,show aF 5000 z=N from by rw[<-mf,dK];omega,show aF 5000 y=N from by rw[<-mf,dK];omega]
 rcases b with⟨g,c⟩|⟨g,c,⟨d,f,ha,e,hb,hc,hd⟩⟩;rcases a with⟨_,d⟩|⟨j,_⟩;exact .inl ⟨c,d⟩;rw[v,j]at g;cases g;rcases a with⟨j,_⟩|⟨j,d,⟨hi,b,he,hf,hg,hh,_⟩⟩;rw[v,j]at g;cases g;have j:rf (rV w o n z u t) (rV w o n y u t):=⟨J,J,J,J,J,by show ad z<=ad y;omega⟩;have a:=adE j ha he;have g:f.e<=ad z:=e.a;have j:b.e<=ad y:=hf.a;subst hb hc hg hh;refine .inr ⟨c,d,⟨hd,by show(f.e)<=z;omega,by show(b.e)<=y;omega,λv=>?_,λv=>?_⟩⟩;have:=a.1 v;cases this;exists J,J,J;let⟨⟨c,d⟩,g⟩:=a.2 v;have a:f.e=ad z:=e.b v;have g:f.e<=b.e:=g;exists by show(f.e)=z;omega,by show(f.e:Int)<=b.e;omega,c
end
section
variable{z:U}{y:Nat}
def aiX{i l g:X}{h:W dM}{e:W (ac×ac)}{m:ac}{f:W Int}{b a n c:Int}(o:c7 z 4 (AA z) i h)(p:aK z 2 l (e.map eD))(d:iQ z g f)(u:∀w∈e,w.2.size<=4000000)(s:Y h<=2000000)(t:Y e<=2000000)(j:Y f<=2000000)(k:m.size<=4000000)(q:lP b)(r:lP c):bZ z T 10 [i,.b [l,O m,g,V b,V a,V n],V c] (λv=>v=R K) H:=by
 have m:iY b 300<300:=X2 b L;have n:iY c 300<300:=X2 c L;refine bZ.a (λy=>?_) (λ_ v _ _=>by rw[v];rfl);refine ai QJ 8 [] λm=>?_;refine a2 J (Mx) ?_;rintro _ rfl;apply I 17 [0];refine b7 J 1 0 [] (OM o p d.a u s t) ?_;rintro _ n _⟨t,l,i,o,rfl,h,p,rfl⟩;refine dk 0 ?_ (hb:=by simp only[co,cA,h.a,d.a];rfl);apply I 6 [0];refine a2 J (Od (b:=300) q A) ?_;rintro _ rfl;apply I 6 [0];have n:aK (z++i) 2 t (l.map eD):=(h.b (iX l) λx a=>bo z a).a;have s:iQ (z++i) g f:=d.b λx a=>bS _ a;apply I 1 [0];refine b7 J 1 0 [] (DZ n s p j k) (he:=λx a=>(dl.1 a).imp id λv=>bo _<|show x∈(i++o)++[]from bS _<|bS _ v) ?_;rintro _ q _⟨hg,hi,hc,hd,t,g,l,u,rfl,f,hf,rfl⟩;apply I 4 [];refine dk 0 ?_ (hb:=by simp only[co,cA,f.a];rfl);refine I 7 [1] ?_;refine dk 0 ?_ (hb:=by simp only[co,cA,h.a,d.a];rfl);refine I 3 [] ?_;refine bD (j:=3) bC m ?_;refine aW (hb:=[2]) 3 [0,1,2] λha h d=>?_;refine a2 J (Od (b:=300) r A) ?_;rintro _ rfl;refine d ?_;refine aW (hc:=[2]) (a:=[(4,B<|iY b 300+iY c 300)]) (hn:=⟨λ_ _ _=>b6 J<|gP J J J L,C⟩) 6 [4,5] λha h d=>?_;refine eq 1 [0] ?_;refine d (v:=.c []) ?_;refine bF [] ?_;refine aL .a 4 [0] ?_;refine b7 J 3 0 [] (DZ n s p j k) (he:=λx a=>(dl.1 a).imp id λv=>bo _<|show x∈(l++u)++((i++o)++[])from bo _<|bS _<|bS _ v) ?_;rintro _ r _⟨hh,hj,s,he,ha,hb,p,d,rfl,j,k,rfl⟩;refine I 4 [] ?_;refine dk 0 ?_ (hb:=by simp only[co,cA,j.a];rfl);refine I 3 [] ?_;refine Dz (f:=(l++p)++z) [3,2,1,0] [3,2,1,0] m (λx a=>by simp only[dl]at a;rcases a with(v|v)|v<;>first|exact .inl v|exact .inr (by simp[cS,v])) λ_ _ m=>?_;refine bO 3 [] ?_;have h:=aiY hf k (Fv _) (by show((iY b 300:Nat):Int)<=((iY b 300+iY c 300:Nat):Int);omega) (by show((iY b 300+iY c 300:Nat):Int)<=600;omega);refine I 2 [] ?_;refine I 1 [] ?_;cases b:(!(ao t 0));refine I 5 [] ?_;refine aP J (λd=>?_)<|λd=>?_;refine aa 6 [] ?_;cases k:(ao t ha);refine I 8 [] ?_;refine af [] J ?_;rcases h with⟨rfl,rfl⟩|⟨rfl,rfl,_⟩<;>first|rfl|exact aE b A|exact aE k A|exact absurd d A|exact absurd (mO:ao (3:Int) 3=false) A|exact absurd (mO:ao (0:Int) 0=false) A
 refine I 8 [] ?_;refine af [] J ?_;rcases h with⟨rfl,rfl⟩|⟨rfl,rfl,_⟩<;>first|rfl|exact aE b A|exact aE k A|exact aE d A|exact absurd (mO:ao (3:Int) 3=false) A|exact absurd (mO:ao (0:Int) 0=false) A
 obtain⟨rfl,rfl,c⟩:=h.resolve_left λv=>by rw[v.1]at b;exact aE b A
 have i:=c.c;have o:aK ((l++p)++z) 3 hc (g.map e5):=(f.b (Ed _) λx a=>bS _<|bS _ a).a;have i:aK ((l++p)++z) 3 s (hb.map e5):=(j.b (Ed _) λx a=>bS _<|bo _ a).a;refine aa 9 [1,0] ?_;refine cl (v:=R N) (IC J J J (by rw[<-mf,dK];exact vI.2 c.d)) ?_;refine I 5 [3,2] ?_;refine cl (v:=R N) (IC J J J (by rw[<-mf,dK];exact vI.2 c.e)) ?_;refine I 14 [1] ?_;refine aP J (λf=>?_)<|λf=>?_;let⟨e,u,j,x⟩:=c.b λv=>by rw[v]at f;exact aE f A
 refine aa 4 [1,3] ?_;refine a2 J (YD e u j x o i (by have:=c.c;omega)) ?_;rintro _ rfl;refine I 11 [] ?_;refine af [] J ?_;rfl;let⟨e,u,v,j⟩:=c.a (by rw[<-mf,zJ,Qf]at f;exact dc.1 f);refine aa 9 [1,0] ?_;refine cl (v:=R N) (zc J J J e) ?_;refine I 5 [3,1] ?_;refine cl (v:=R N) (ID J J J (by rw[<-mf,dK];exact vI.2 u)) ?_;refine I 4 [3] ?_;refine ck i (bk ..) ?_;refine I 2 [1] ?_;refine ck o (bk ..) ?_;refine cl (v:=R N) (ID J J J (by rw[<-mf,dK,j,bJ];exact vI.2 (by show(((Y g):Nat):Int)<=((Y g+Y v:Nat):Int);omega))) ?_;refine I 13 [] ?_;refine gN (g:=Unit) (Y g) (λa x=>True) (λa x=>[(8,X.a q 0),(11,X.a r 0),(14,B a)]) (λa x=>[(q,P.a [V hg,O hi,hc,V hd]),(r,P.a [V hh,O hj,s,V he])]) () [1,3] (C) ⟨J,J,J,C⟩ J λa x l n p=>?_;refine bO 6 [0] ?_;refine ck o (bk ..) ?_;refine I 3 [] ?_;refine aP J (λs=>?_)<|λs=>?_;have v:=cM s;let⟨w,c⟩:=a1 v;have e:=o.d (o:=T) (show(g.map e5)[a]?=Q (e5 w)by rw[cv,c];rfl);have g:=i.d (o:=T) (show(hb.map e5)[a]?=Q (e5 w)by rw[cv,j,gh v,c];rfl);refine aa 5 [] ?_;let⟨a,c,j,q⟩:=e;let⟨e,f,o,r⟩:=g;refine bD (j:=1) bC m ?_;refine bF (c:=[0,1]) (a:=[(3,X.a a c),(4,X.b [V w.a,V w.c,O w.b]),(8,X.a e f),(9,X.b [V w.a,V w.c,O w.b]),(10,R N)]) (hk:=⟨λ_ _ _=>b6 J<|q.a J J J M,λ_ _ w=>bL J J J (w _ q.b)<|q.d M M,λ_ _ _=>b6 J<|r.a J J J M,λ_ _ w=>bL J J J (w _ r.b)<|r.d M M,λ_ _ _=>(Yh J J J J),C⟩) [0,1,2,3,4,5,6,7,8,9,10] ?_;refine aL .a 7 [] ?_;refine cH ?_;refine I 2 [] ?_;exact eI () [0,1] v (C) ⟨J,J,J,C⟩<|J;have w:=e6 n s;refine aa 2 [] ?_;refine ch ?_;refine aL (.b _) 8 [] ?_;refine af [] J ?_;rfl;refine I 12 [] ?_;cases m:(ao t ha);refine I 8 [] ?_;refine af [] J ?_;rcases h with⟨rfl,rfl⟩|⟨rfl,rfl,_⟩<;>first|rfl|exact aE b A|exact aE k A|exact aE d A|exact aE (mO:ao (3:Int) 3=false) A|exact absurd (mO:ao (0:Int) 0=false) A
 refine I 8 [] ?_;refine af [] J ?_;rcases h with⟨rfl,rfl⟩|⟨rfl,rfl,_⟩<;>first|rfl|exact aE b A|exact absurd k A|exact absurd d A|exact absurd (mO:ao (3:Int) 3=false) A|exact absurd (mO:ao (0:Int) 0=false) A
end
def arf{b c d}(a:lO b c=Q d):∃e,b.underlying c=Q (.struct e):=by rw[lO]at a;split at a;rename_i f g;exists f;cases a
def aq9(h)(e)(a)(i)(b)(d f)(k:W MemPlace)(c:∀(j:Nat)hr v,ti.params[j]?=Q hr->b[j]?=Q v->Value.okWide T a .any i hr v)(g:DataW.Whole e T (aG Tryz.f10.params) Rows.furtherSpec.vars N a (aG b) d f k)(l:Rows.uptoSmall h (d++f)=K):Calls T 10 b a λhi hf=>∃v,hi=.returned v/\Rows.furtherSpec.post e T ti N K N N a b v hf:=by
 have hq:=g;obtain⟨k6,k7,hz,h0,rfl,k0,k1⟩:=g;have hp:=hz;rw[ZZ]at hp c;obtain⟨hs,j1,hg,ks,he,k8,kx,rfl,rfl,hm,ko⟩:=uD hp;obtain⟨ht,j2,hh,kt,u,k9,h1,rfl,rfl,hn,kp⟩:=uD ko;obtain⟨hu,j3,hv,ku,p,j0,h2,rfl,rfl,ho,kq⟩:=uD kp;obtain⟨rfl,rfl,rfl⟩:=trodAll_nil kq;subst h2;subst h1;obtain rfl:b=#[hs,ht,hu]:=by cases b;simp_all
 obtain⟨rfl,rfl⟩:=trodVars_none h0;have h3:=ej l;simp only[eF,Rows.uptoBulkAll]at h3;have kj:=hm;have kk:=hn;have kl:=ho;have ha:=hq.lt;let⟨k2,hj⟩:=hm;let⟨k3,hk⟩:=hn;let⟨k4,hl⟩:=ho;have ke:=c 0 52 hs J J;have kf:=c 1 56 ht J J;have kg:=c 2 3 hu J J;obtain⟨q,n,r,rfl⟩:=okWide_slice JD ke;have hw:aG (Value.slice q n r).cells=[.slice q n r]:=rfl;rw[hw]at hj;obtain⟨j4,kr,kh,h4,-,ky⟩:=PD hj (show Rows.uptoBulk hg<=1048576 by omega);cases kh;let⟨kw,h8⟩:=arf Jy;obtain⟨s,rfl,-⟩:=okWide_struct h8 kf;have hx:aG (Value.agg s).cells=aG s:=rfl;rw[hx]at hk;obtain⟨y,hd,kv,hc,k5,z,hb,x,kz,h6,kc,h7,h5,kb,ka,h9,-⟩:=PE hk (show Rows.uptoBulk hh<=1048576 by omega);obtain rfl:s=#[y,.string hc,hd,.int .i64 z,.int .i64 hb,.int .i64 x]:=by cases s;simp_all
 obtain⟨w,rfl⟩:=okWide_int pm kg;have hy:aG (Value.int .i64 w).cells=[.int .i64 w]:=rfl;rw[hy]at hl;obtain⟨j5,ki,kd,-⟩:=pV pm hl;cases ki;refine Calls.mono (MA (z:=a) (b:=[ed a<|.slice q n r,.b [ed a y,O hc,ed a hd,V z,V hb,V x],V w]) (a:=[.slice q n r,.agg #[y,.string hc,hd,.int .i64 z,.int .i64 hb,.int .i64 x],.int .i64 w]) (by simp only[bm,aT,Hz,dD])<|aiX h4 h6 kc h7 L h5 kb ka h9 kd) ?_;rintro hi hf⟨rfl,t⟩;have n:∀m∈he,m.block<a.heap.size:=λm o=>ha m (by simp[o]);have km:∀m∈u,m.block<a.heap.size:=λm o=>ha m (by simp[o]);have kn:∀m∈p,m.block<a.heap.size:=λm o=>ha m (by simp[o]);refine⟨_,J,[hg,hh,hv],[],_,[],he++(u++(p++[])),[],hq,?_,?_,J,t.frame _,nofun⟩;rw[are];exact trodAll_cons_mk (shut_bool Fj K) trodAll_mk0;rw[ZZ];exists he,u++(p++[]),vG PC M (ej M) kj t n,⟨u,p++[],vG PC M (ej M) kk t km,⟨p,[],vG PC M (ej M) kl t kn,J,J⟩,J⟩
def aq7{a b:aJ}(c:a=K)(d:b=K):(a&&b)=K:=by rw[c,d];rfl
def aq8:Fs T 10 ti (Rows.OpenSpec.upto Rows.furtherSpec).bare Rows.furtherUptoRow=K:=by
 unfold Fs;repeat refine aq7 ?_ ?_
 all_goals as_aux_lemma=>kernel_rfl
def arc:T.funcNamed Rows.furtherUptoRow.func=Q 10:=M
def ara:ti.isInstance T Rows.furtherUptoRow.origin Rows.furtherUptoRow.targs:=ej M
def arg:ti.isWrapper T Rows.furtherUptoRow.wrapper Rows.furtherUptoRow.mainSum:=by unfold Func.isWrapper;first|(rw[aC (by decide+kernel)];kernel_rfl)|(rw[ak (by decide+kernel)];exact av)
def arb(c:Os)(e:c.Started)(b:Type)(a:TypeId×Value->b)(d:Stop.Interp):ReturnsInHanded {} checked c 10 .any ((Rows.OpenSpec.upto Rows.furtherSpec).pre6 a T ti Rows.furtherUptoRow.domain N) (((Rows.OpenSpec.upto Rows.furtherSpec).at d).post a T ti N K N N):=by refine returnsInHanded_of_cond J ard e M QJ (QG J N ⟨#[],#[.slice Z 0 0,.agg #[.slice Z 0 0,.string .empty,.slice Z 0 0,.int .i64 0,.int .i64 0,.int .i64 0],.int .i64 0],[]⟩ 8 M M M (x:=([.nil,.agg [.nil,.lit<|.string [],.nil,.lit<|.int .i64 0,.lit<|.int .i64 0,.lit<|.int .i64 0],.lit<|.int .i64 0],[],[])) M J M) ?_;intro f h g j k i n l _ m _;exact aq9 b a f h g j k i n l m
theorem furtherUpto_holds:Rows.FurtherUptoSaid:=QF 10 ti J J J J J J J Kb J J J J J arc QJ aq8 ara arg<|λd e b c _ a=>arb d e b c a
