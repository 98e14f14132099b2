/- What is proved here: part 05. -/
import Derived.Test.YtpofmnfkdkmieaaGreatG04
import Derived.Shelf.SlSortCmp.NoneTotal
import Derived.Shelf.SlSortCmp.WholeK
set_option linter.all false
open Array renaming size->aj,toList->aG
open Bool renaming false->N,true->K
open ByteArray renaming size->bf
open Classical renaming byContradiction->aa3,choose->aa4,choose_spec->CH
open Decidable renaming decide->cj
open False renaming elim->i4
open Go renaming Calls->th,FuncId->cV,Oper->ah,Program->aD,TypeId->fV,Value->bh,World->ap,execOp->aY,heap_alloc_new->Ct,wpList_plain->zy
open Go.Calls renaming mono->uB
open Go.CallsIn renaming mono->uC
open Go.IntKind renaming i64->gF
open Go.Op renaming bytesLess->mP
open Go.Oper renaming wp->uF
open Go.Proofs.SlLaysF0 renaming n6->atc
open Go.Proofs.Tryz renaming f166->lv,func166->abw,func266->QV,prog->T
open Go.Region renaming binds->hY,ready->zr,wanted->ls
open Go.Result renaming ok->PF
open Go.RowKit.Below renaming refl->xz
open Go.Sem renaming run_bind->fN,run_pure->jt
open Go.Sort renaming ahead->zs,flatK->Co,grow->asl,putRow->JF
open Go.Value renaming int->kN
open Go.World renaming block_lt_of_cell?->Cr,cell?->rZ
open Int renaming toNat->ad
open Int.ofNat renaming inj->Cz
open List renaming find?_some->asA,flatten->an,getLast?_eq_none_iff->asJ,length->Y,mem_of_mem_tail->asP,of_mem_zip->asS,range->fX,replicate->e8,toArray->E
open List.cons renaming inj->Fx
open Nat renaming beq->aw,blt->cc,strongRecOn->vO
open Option renaming none->Z,some->Q
open Option.some renaming inj->cx
set_option maxRecDepth 100000
set_option maxHeartbeats 4000000
noncomputable section
namespace Go.Proofs.YtpofmnfkdkmieaaGreat
open Tryz Go Go.RowKit Go.Shelf Go.Sort
structure ly(b)(h)(f:Code)(d)(i)(k:List Nat)(l:py)(m:gI)(g)(e)(j):Prop where
 a:∀c,gH h c d->f.wp b (sj b g e j) c i
structure wh(b)(i)(f)(h)(d)(j)(l:List Nat)(m:py)(n:gI)(g)(e)(k):Prop where
 a:∀c,gH i c d->wpList b f (sj b g e k) h c j
structure kQ(d)(h)(f)(c)(i)(k:List Nat)(l:py)(m:gI)(g)(e)(j):Prop where
 a:∀b,gH h b c->sj d g e j f b i
def FY(b:aD)(d:cV)(c:bv bh)(a:ap)(v:bh):Prop:=th b d c a λe f=>e=.returned v/\f=a
section
variable{w:aD}{y:Nat}{x:jV}{z:ap}{s:W Nat}{q:py}{p:gI}{u:Func}{t:Ending->ap->Prop}{r:W tm}
def gr{a b}(c:ly w y a x z s q p u t (⟨0,0,b,λ_ _=>True⟩::r)):ly w y (.seq a b) x z s q p u t r:=⟨λd e=>wp_seq<|c.a d e⟩
def Rm{b a}(c:ly w y a x z s q p u t (⟨1,b,.skip,λ_ _=>True⟩::r)):ly w y (.block b a) x z s q p u t r:=⟨λd e=>wp_block<|c.a d e⟩
def acL{a}(b:kQ w y (.exit a) x z s q p u t r):ly w y (.exit a) x z s q p u t r:=⟨λc d=>wp_exit<|b.a c d⟩
def zU{a d e c}(b:i9 x a=Q (.bool c))(g:c=K->ly w y d ((a,.bool K)::x) z s q p u t r)(f:c=N->ly w y e ((a,.bool N)::x) z s q p u t r):ly w y (.cond (.tmp a) d e) x z s q p u t r:=⟨λi h=>wp_cond_split (h.a b) (λj=>(g j).a i<|h.c<|b▸j▸J)<|λk=>(f k).a i<|h.c<|b▸k▸J⟩
def i7{c a}(b:wh w y (E a) a x z s q p u t r):ly w y (.region c (E a) N) x z s q p u t r:=⟨λd e=>wp_region_lit<|b.a d e⟩
def ye(a:kQ w y .ret x z s q p u t r):ly w y .ret x z s q p u t r:=⟨λb c=>wp_ret<|a.a b c⟩
def zV(a:kQ w y .normal x z s q p u t r):ly w y .skip x z s q p u t r:=⟨λb c=>wp_skip<|a.a b c⟩
def acN{b a}(d:yd a x)(c:ly w y b a z s q p u t r):ly w y b x z s q p u t r:=⟨λe f=>c.a e<|f.g d⟩
def acM{a:Type}{y b u t r}(x:a->jV)(z)(s)(q:a->py)(p:a->gI)(d:a->Prop)(e:a->Nat)(c)(g:d c)(f:∀l,d l->ly w y b (x l) z s (q l) (p l) u t (⟨2,0,.skip,λm v=>∃i,e i<e l/\d i/\v=z/\gH y m (x i)⟩::r)):ly w y (.loop b) (x c) z s (q c) (p c) u t r:=by
 refine⟨?_⟩;intro m v n a o;let hd:∀i h j,e h=i->d h->gH y j (x h)->∃k d l,sj w u t r k d l/\Arrives w (lone (n.at j<|.code b::.inLoop b::a) o z) n a o k d l:=by intro d;induction d using vO with|_ j hc=>intro hb m ha d v;let⟨l,h,k,j,i⟩:=(f hb d).a m v n (.inLoop b::a) o;cases l with|normal=>obtain⟨b,d,a,rfl,l⟩:=j;let⟨o,f,he,hb,n⟩:=hc (e b) (ha▸d) b h J a l;exact⟨o,f,he,hb,.of_steps (Steps.trans i<|.one step_inLoop) n⟩|exit o=>exact⟨_,h,k,j,.pass J (λ_ _=>.inl az) i⟩|goto a=>exact⟨_,h,k,j,.pass J (λ_ _=>.inl az) i⟩|ret=>exact⟨_,h,k,j,.pass J (λ_ _=>.inl az) i⟩|panic e=>exact⟨_,h,k,j,.pass J (λ_ _=>.inl az) i⟩|outgrown=>exact⟨_,h,k,j,.pass J (λ_ _=>.inl az) i⟩
 let⟨n,e,h,f,b⟩:=hd _ c m J g v;exact⟨n,e,h,f,.of_steps (.one step_loop) b⟩
def Ro{e g}{a b:Nat}{d c o n m f v}(k:wc w b)(j:cc a y=K)(l:wi x d=Q c)(i:∀ha,ha=z->FY w b (E c) ha v)(h:wh w y e g ((a,v)::x) z s q p u t r):wh w y e (⟨Q a,.call ⟨.value<|.func b,E d,o⟩,n,m,f,Z⟩::g) x z s q p u t r:=⟨λg a=>zy J λe b=>by rw[uF];rw[K3 J k,FZ a d c l];apply(i z J).mono;rintro f c⟨rfl,rfl⟩;exact b _ _<|h.a _<|a.d j v⟩
def i8{a}(b:kQ w y .normal x z s q p u t r):wh w y a [] x z s q p u t r:=⟨λc d=>wpList_nil<|b.a c d⟩
def eU{b c a d i h j v}(f:cc a y=K)(g:jW w y x z [] [] gI.a d v)(e:wh w y b c ((a,v)::x) z s q p u t r):wh w y b (⟨Q a,d,i,h,j,Z⟩::c) x z s q p u t r:=⟨λl k=>zy J λn m=>by rw[uF];rw[g.a z (fD.a z []) l k];exact m _ _<|e.a _<|k.d f v⟩
def acO{c:Type}{y d z s g h u t r}{x:c->jV}{e:c->Prop}{b:c->Nat}{f}(a)(k:b a<b f)(i:e a)(j:Nat)(_:j=j)(_:j=j)(l:yd (x a) d):kQ w y .normal d z s g h u t (⟨2,0,.skip,λm o=>∃a,b a<b f/\e a/\o=z/\gH y m (x a)⟩::r):=⟨λ_ n=>⟨a,k,i,J,n.g l⟩⟩
def acP{c d b}(a:kQ w y .normal x z s q p u t r):kQ w y .normal x z s q p u t (⟨1,c,d,b⟩::r):=⟨a.a⟩
def acQ{e d a b}(c:kQ w y (.exit a) x z s q p u t r):kQ w y (.exit a) x z s q p u t (⟨0,b,e,d⟩::r):=⟨c.a⟩
def acR{a d c}(b:kQ w y .normal x z s q p u t r):kQ w y (.exit a) x z s q p u t (⟨1,a,d,c⟩::r):=⟨λe f=>by show(if a=a then _ else _);rw[aC J];exact b.a e f⟩
def acS{e d a b}(c:kQ w y (.exit a) x z s q p u t r):kQ w y (.exit a) x z s q p u t (⟨2,b,e,d⟩::r):=⟨c.a⟩
def gs{a d b}(c:ly w y a x z s q p u t r):kQ w y .normal x z s q p u t (⟨0,b,a,d⟩::r):=⟨c.a⟩
def yf{a}(b:kQ w y .ret x z s q p u t r):kQ w y .ret x z s q p u t (a::r):=⟨λc d=>by have:=b.a c d;let⟨e,_,_,_⟩:=a;match e with|0=>exact this|1=>exact this|_+2=>exact this⟩
def zW{a v b}(d:u.results=#[.tmp a])(e:i9 x a=Q v)(c:v=b):kQ w y .ret x z s q p u (λg i=>g=.returned b/\i=z) []:=⟨λj f=>by refine bodyPost_ret (?_:_=PF v z) f.f ⟨c▸J,J⟩;rw[results_tmp d];exact b9 (λh=>PF h z)<|f.a (j:=.tmp a) e⟩
def F2{c u b a d t y}(g:w.funcs[c]?=Q u)(f:u.body=Q b)(h:u.ntmps=y)(e:ly w y b (zY 0 a) d [] [] gI.a u t []):th w c (E a) d t:=by
 refine calls_of_wp g f<|e.a _ ⟨?_,J,?_⟩;simp only[xT,vS,h];omega;intro i v m;let k:(E a)[i]?=Q v:=by have:=(K0 a 0 i v m).2;simpa using this
 let l:i<aj a.toArray:=by rcases dy i (aj a.toArray)with j|j;exact j;rw[uv j]at k;cases k
 rwa[xS l]
def ac1(a j):(!(mP a.toList j.toList||a.toList==j.toList))=mQ j a:=by
 rw[mQ];have f:∀{c d},mP c d=K->mP d c=N:=λ{c d}b=>by cases e:mP d c with|false=>rfl|true=>have:=KH _ _ _ b e;rw[CP]at this;cases this
 rcases KI a.toList j.toList with b|b|b;rw[b,f b];rfl;rw[b,CP];simp;have g:¬a.toList=j.toList:=λe=>by rw[e,CP]at b;cases b
 rw[b,f b];simp[g]
def acx{f g b c a j}(d:eG x b=Q (.string a))(e:eG x c=Q (.string j)):jW w y x z s q p (.binOp .gtr f b c g) (.bool<|mQ j a):=KQ d e (λh=>by simp only[Op.stringOp];rw[ac1];rfl) (by simp[binOp])
end
def lq(a b:ac):Int:=if mQ a b then-1 else if mQ b a then 1 else 0
def Z2(a)(b):FY T 268 #[.string a] b (.bool N):=by refine F2 func268 J ntmps268<|gr<|i7<|eU J (jC J)<|i8<|gs<|gr<|i7<|eU J (iz J)<|eU J (iz J)<|eU J (acC J J)<|eU J (jC J)<|i8<|gs<|ye<|zW J J ?_;simp[aM]
def ZU(b c)(a):FY T 168 #[.string b,.string c] a (.int .i64<|lq b c):=by
 refine F2 func168 J ntmps168<|gr<|i7<|eU J (jC J)<|i8<|gs<|gr<|i7<|eU J (iz J)<|Ro Rq J J (λa _=>Z2 _ a)<|eU J (jC J)<|i8<|gs<|gr<|i7<|eU J (iz J)<|Ro Rq J J (λa _=>Z2 _ a)<|eU J (jC J)<|i8<|gs<|gr<|gr<|i7<|eU J (iz J)<|i8<|gs<|zU J ?_ ?_;intro d;try(replace d:=ej d)
 cases d;intro f;try(replace f:=zG f)
 refine zV<|gs<|gr<|gr<|i7<|eU J (iz J)<|i8<|gs<|zU J ?_ ?_;intro e;try(replace e:=ej e)
 cases e;intro g;try(replace g:=zG g)
 refine zV<|gs<|gr<|gr<|i7<|eU J (iz J)<|eU J (iz J)<|eU J (acA J J)<|i8<|gs<|zU J ?_ ?_;intro h;try(replace h:=ej h)
 refine gr<|i7<|eU J (jC J)<|i8<|gs<|ye<|yf<|zW J J ?_;(rw[lq];simp_all);intro i;try(replace i:=zG i)
 refine zV<|gs<|gr<|gr<|i7<|eU J (iz J)<|eU J (iz J)<|eU J (acx J J)<|i8<|gs<|zU J ?_ ?_;intro j;try(replace j:=ej j)
 refine gr<|i7<|eU J (jC J)<|i8<|gs<|ye<|yf<|zW J J ?_;(rw[lq];simp_all);intro k;try(replace k:=zG k)
 refine zV<|gs<|gr<|i7<|eU J (jC J)<|i8<|gs<|ye<|zW J J ?_;(rw[lq];simp_all)
def zq(b c:Int)(a:Nat):Int:=if a=0 then b else c
def arA{a c b}(f:b<2)(e:∀j<b,zq a c j=0)(d:¬zq a c b=0):(.int .i64<|zq a c b:bh)=.int .i64 (if a=0 then c else a):=by
 by_cases g:b=0;subst g;rw[ak<|show¬a=0 from d];rfl;have h:b=1:=L
 subst h;rw[aC<|show a=0 from e 0 L];rfl
def arB{a b d}(e:2<=d)(c:∀j<d,zq a b j=0):(.int .i64 0:bh)=.int .i64 (if a=0 then b else a):=aC (show a=0 from c 0 L)▸(show b=0 from c 1 L)▸J
def arC(a)(b d)(e)(f:a<aj e.heap)(c:∀p<2,e.cell? ⟨a,0+p*1,Z⟩=Q (.int .i64<|zq b d p)):FY T 167 #[.slice (Q ⟨a,0,Z⟩) 2 2] e (.int .i64<|if b=0 then d else b):=by
 replace c:Hid _:=c;refine F2 func167 J ntmps167<|gr<|i7<|eU J (jC J)<|i8<|gs<|gr<|i7<|eU J (jC J)<|i8<|gs<|gr<|gr<|i7<|eU J (iz J)<|eU J (Ri (C4 J) J)<|eU J (iz J)<|i8<|gs<|Rm<|acN (a:=(λs:Nat=>[(3,.int .i64 0),(6,.slice (Q ⟨a,0,Z⟩) 2 2),(7,.int .i64 2),(8,.int .i64<|s)])<|0) cU (acM (λt:Nat=>[(3,.int .i64 0),(6,.slice (Q ⟨a,0,Z⟩) 2 2),(7,.int .i64 2),(8,.int .i64<|t)]) _ _ (λx:Nat=>[]) (λy:Nat=>gI.a) (λq:Nat=>q<=2/\∀j<q,zq b d j=0) (λu:Nat=>2-u) (0) (⟨eL _,λj v=>L⟩) ?_);intro g k;refine gr<|i7<|eU J (acz J J)<|i8<|gs<|gr<|zU J ?_ ?_;intro l;try(replace l:=ej l)
 have o:g<2:=L
 refine zV<|gs<|gr<|Rm<|gr<|i7<|eU J (Rh (C4 J) J J ?_) ?_;omega;refine eU J (CR (C2 J) J<|CU (c.out g o) f)<|eU J (jC J)<|i8<|gs<|gr<|i7<|eU J (iz J)<|eU J (iz J)<|eU J (acB J J)<|i8<|gs<|zU J ?_ ?_;intro h;try(replace h:=ac7 h)
 refine gr<|i7<|eU J (iz J)<|eU J (jC J)<|i8<|gs<|ye<|yf<|yf<|yf<|yf<|yf<|zW J J<|arA o k.2 h;intro i;try(replace i:=ac6 i)
 refine zV<|acP<|gs<|i7 ?_;((refine eU J (acy J J ?_) ?_;omega));refine eU J (iz J)<|i8<|acO (g+1) ?_ (⟨L,λj w=>by rcases dy j g with n|n;exact k.2 j n;(have r:j=g:=L);subst r;exact i⟩) 0 J (J) cU;omega;intro m;try(replace m:=zG m)
 refine acL<|acQ<|acS<|acR<|gs<|gr<|i7<|eU J (iz J)<|eU J (jC J)<|i8<|gs<|ye<|zW J J<|arB L k.2
def fu(a b:ap):Prop:=Below (aj a.heap) a b/\a.drawn<=b.drawn
def fu.a(e):fu e e:=⟨xz _ _,bd _⟩
def fu.c{e f g}(h:fu e f)(i:fu f g):fu e g:=⟨((hK.d h.1 []).e (hK.d i.1 []) az).below,df h.2 i.2⟩
def fu.b(e)(f):fu e (e.alloc f):=⟨(xz _ e).alloc (bd _) _,bd _⟩
def fu.d{f e}(g:fu f e):∃t s,e=asl (f.drewN t) s:=by
 refine⟨e.drawn-f.drawn,e.heap.extract (aj f.heap)<|aj e.heap,?_⟩;let⟨h,p⟩:=g;let⟨q,j,v,z,g⟩:=e;let⟨n,i,u,y,e⟩:=f;have j:=h.os;have k:=h.tape;have l:=h.output;have o:=h.size;have m:=h.block;dsimp only at j k l o m p;subst j;subst k;subst l;unfold asl World.drewN;dsimp only;congr 1;apply Kg;intro i;rw[Array.getElem?_append];split;next r=>exact m i r
 next w=>rw[Array.getElem?_extract];by_cases x:i<aj q;rw[aC L,show aj n+(i-aj n)=i by omega];rw[ak L,uv L]
 omega
section
variable{w:aD}{q:Nat}{t:jV}{m:bv ah}{l:Exit->Act->ap->Prop}{y:Act}{z r:ap}{n:Act->ap->Prop}{s u:Nat}{k:Op}{p:fV}{o:String}{x:bv Edge}{v:bh}
def tp(a:m[s]?=Q ⟨Q u,k,p,o,x,Z⟩)(b:(aY y.eval ⟨Q u,k,p,o,x,Z⟩).run w z=.ok (.value v) r)(c:n (y.put (Q u) v) r):wpOp w m l s n y z:=by rw[wpOp];rw[a];show(if ls _ _=K then _ else _);rw[aC<|show ls _ _=K from rfl];left;rw[uF];rwa[b]
def K6{a c b i}(g:m[s]?=Q ⟨Q u,.call ⟨.value<|.func a,E c,i⟩,p,o,x,Z⟩)(f:wc w a)(d:gH q y t)(h:wi t c=Q b)(e:th w a (E b) z λj r=>∃v,j=.returned v/\n (y.put (Q u) v) r):wpOp w m l s n y z:=by rw[wpOp];rw[g];show(if ls _ _=K then _ else _);rw[aC<|show ls _ _=K from rfl];left;rw[uF];rw[K3 J f,FZ d c b h];apply uB e;rintro a r⟨v,rfl,k⟩;exact k
def ac9{j f b a c d e g}(k:gH q y t)(i:CS w j f b)(ha:CT w f e)(h:Y e=b)(n:cc 0 (a*b)=K)(r:Nat.ble (a*b) 16777216=K)(m:zZ t c=Q d)(l:tn (λs=>Q (s*b,b)) (jX e a) d=Q g):(aY y.eval ⟨Q u,.buildSlice j a<|E c,p,o,x,Z⟩).run w z=.ok (.value<|.slice (Q ⟨aj z.heap,0,Z⟩) a a) (z.alloc<|.cells (E g) f):=by
 let f:0<a*b:=by simpa using n
 let hb:¬a*b>2^24:=by have:=ez r;omega
 let⟨v,hc,n⟩:=ha.a z;let ha:=i.2 z;let r:=RC k c d m;let g:(c.toArray.map λ(x:Nat×Operand)=>(x.1,y.eval x.2))=E d:=by rw[<-r];simp
 let k:0<Y e:=by rw[h];exact aaS f|>λj=>j
 let f:=K8 e k a;rw[h]at f;let e:=F1 _ _ _ _ l;simp only[aY];rw[show(c.toArray.map λx=>match x with|(s,x)=>(s,y.eval x))=E d from g];let c:¬a*b=0:=L
 simp only[Instr.buildSlice,fN,run_underlying i.1,Result.andThen,ha,ak hb,ak c,jt,hc,n];rw[f];simp[e,newRow]
def Rn{d e f i g}{k:W tm}{h:bv ah}{j:W ah}{a:fV}{c:Operand}{b:W bh}(m:cc u q=K)(r:eG t c=Q (.agg<|E b))(l:wh w q h j ((u,.pointer<|Q ⟨aj z.heap,0,Z⟩)::t) (z.alloc<|.cells (E b) a) d e f i g k):wh w q h (⟨Q u,.box a c,p,o,x,Z⟩::j) t z d e f i g k:=⟨λy s=>zy J λn v=>by(let d:(aY y.eval ⟨Q u,.box a c,p,o,x,Z⟩).run w z=.ok (.value<|.pointer<|Q ⟨aj z.heap,0,Z⟩) (z.alloc<|.cells (E b) a):=by simp only[aY];rw[s.a r];simp[Instr.box,newVar,newRow,Value.cells]);rw[uF];rw[d];exact v _ _<|l.a _<|s.d m _⟩
def acT{d e f b c}{a:Tmp}{v}(h:b.results=#[.tmp a])(i:i9 t a=Q v)(g:fu c z):kQ w q .ret t z d e f b (λk r=>k=.returned v/\fu c r) []:=⟨λy j=>by refine bodyPost_ret (?_) j.f ⟨J,g⟩;rw[results_tmp h];exact b9 (λl=>PF l z)<|j.a (j:=.tmp a) i⟩
end
def xx(a b:bA):Int:=if lq a.b b.b=0 then lq a.a b.a else lq a.b b.b
def lr:S Code->bv ah|Q (.seq _<|.seq (.region _ a _) _)=>a|_=>#[]
def xy(a b:Nat):bh:=.pointer<|Q ⟨a,b,Z⟩
def zS(a b:bA)(c d:Nat)(e:ap)(v:bh):Nat->Prop|0=>v=xy c (0+0)|1=>v=.string a.b|2=>v=xy d (0+0)|3=>v=.string b.b|4=>v=.int .i64 (lq a.b b.b)|5=>v=xy c (0+1)|6=>v=.string a.a|7=>v=xy d (0+1)|8=>v=.string b.a|9=>v=.int .i64 (lq a.a b.a)|10=>∃f,v=.slice (Q ⟨f,0,Z⟩) 2 2/\f<aj e.heap/\∀g<2,e.cell? ⟨f,0+g*1,Z⟩=Q (.int .i64<|zq (lq a.b b.b) (lq a.a b.a) g)|_=>v=.int .i64 (xx a b)
def zS.a{f g c d b e v}:∀{j},zS f g c d b v j->Below (aj b.heap) b e->zS f g c d e v j|10,k,h=>by let⟨i,x,y,z⟩:=k;exact⟨i,x,mN y h.size,λc b=>Jw h<|z c b⟩|0,l,_=>l|1,m,_=>m|2,n,_=>n|3,o,_=>o|4,p,_=>p|5,q,_=>q|6,r,_=>r|7,s,_=>s|8,t,_=>t|9,u,_=>u|_+11,w,_=>w
def kM(j:Nat):Nat:=bif aw j 12 then 4 else j+5
structure ra(t)(r s)(n o)(q:Array Bool)(p:Act)(m:ap):Prop where
 i:aj q=13
 e:gH 17 p [(2,xy n 0),(3,xy o 0)]
 k:fu t m
 f:∀j l,(cz r)[j]?=Q l->m.cell? ⟨n,0+j,Z⟩=Q l
 g:∀j l,(cz s)[j]?=Q l->m.cell? ⟨o,0+j,Z⟩=Q l
 h:∀j,j<13->q.getD j N=K->∃v,p.tmps[kM j]?=Q v/\zS r s n o m v j
section
variable{q:ap}{x w:bA}{u t:Nat}{s:bv aJ}{y:Act}{r p:ap}{z o:Nat}{v:bh}
def ra.a(l:ra q x w u t s y r)(m:fu r p)(hb:z<13)(n:kM z=o)(ha:zS x w u t p v z):ra q x w u t (s.setIfInBounds z K) (y.put (Q o) v) p:=by
 subst n;let he:∀j,j≠kM z->(y.put (Q<|kM z) v).tmps[j]?=y.tmps[j]?:=λj hb=>by show(y.tmps.setIfInBounds (kM z) v)[j]?=_;rw[Kh<|λn=>hb n.symm]
 let hb:kM z<aj y.tmps:=by let n:=l.e.b;(have:kM z<17:=by unfold kM;cases n:aw z 12<;>simp only[b4,dE]<;>simp only[Nat.beq_eq,jz,ne_eq]at n<;>omega);omega
 let hm:(y.put (Q<|kM z) v).tmps[kM z]?=Q v:=by show(y.tmps.setIfInBounds (kM z) v)[kM z]?=_;rw[Qc hb]
 let hl:∀j,j<13->j≠z->kM j≠kM z:=λj n hb=>by unfold kM;cases n:aw j 12<;>cases hb:aw z 12<;>simp only[b4,dE]<;>simp only[Nat.beq_eq,jz,ne_eq]at n hb<;>omega
 let hc:kM z≠2/\kM z≠3:=by unfold kM;cases aw z 12<;>simp only[b4,dE]<;>omega
 refine⟨by rw[vT];exact l.i,⟨?_,l.e.f,λj hg hf=>?_⟩,l.k.c m,λj hd n=>Jw m.1<|l.f j hd n,λj hh hb=>Jw m.1<|l.g j hh hb,λj hd hk=>?_⟩;show 17<=aj (y.tmps.setIfInBounds (kM z) v);rw[vT];exact l.e.b;let hi:=l.e.e j hg hf;let hj:j=2\/j=3:=by by_cases n:j=2;exact .inl n;by_cases hb:j=3;exact .inr hb;exfalso;let hg:=jz.2 λhh=>n<|b8 hh;let n:=jz.2 λhh=>hb<|b8 hh;simp[i9,hg,n]at hf
 rw[he j (by rcases hj with rfl|rfl;exactλn=>hc.1 n.symm;exactλhb=>hc.2 hb.symm)];exact hi;by_cases hb:j=z;subst hb;exact⟨v,hm,ha⟩;rcases arU hk with n|n;exact aE n hb;let⟨hf,hc,ha⟩:=l.h j hd n;exact⟨hf,by rw[he _<|hl j hd hb];exact hc,ha.a m.1⟩
def ra.c(o:ra q x w u t s y r){m l}(n:m[z]?=Q l)(hc:Nat){j}(p:l.after[hc]?=Q ⟨j,.data⟩)(hb:z∈zr .any m s)(ha:j<13):∃v,y.tmps[kM j]?=Q v/\zS x w u t r v j:=by let⟨hc,l,m⟩:=(mem_ready.1 hb).2;rw[n]at l;cases l;exact o.h j ha<|m ⟨j,.data⟩ (aaW p) J
def ra.b(m:ra q x w u t s y r){l v}(n:y.tmps[l]?=Q v):gH 17 y [(l,v)]:=⟨m.e.b,m.e.f,λj z o=>by replace o:(bif aw j l then Q v else Z)=Q z:=o;cases p:aw j l with|true=>rw[p]at o;cases o;rwa[b8 p]|false=>rw[p]at o;cases o⟩
def ra.d(o:ra q x w u t s y r){l m v n}(p:y.tmps[l]?=Q v)(z:y.tmps[m]?=Q n):gH 17 y [(l,v),(m,n)]:=⟨o.e.b,o.e.f,λj z p=>by replace p:(bif aw j l then Q v else bif aw j m then Q n else Z)=Q z:=p;cases n:aw j l with|true=>rw[n]at p;cases p;rwa[b8 n]|false=>rw[n]at p;cases l:aw j m with|true=>rw[l]at p;cases p;rwa[b8 l]|false=>rw[l]at p;cases p⟩
end
abbrev px(a:Nat):Prop:=∀(c)(h i)(e f)(j)(b)(d)(g),ra c h i e f b d g->a∈zr .any (lr lv.body) b->wpOp T (lr lv.body) j a (λk l=>ra c h i e f (b.setIfInBounds a K) k l) d g
def aqF:px 0:=λf k l g h e j c a b i=>have d:(lr lv.body)[0]?=Q ⟨Q 5,.fieldAddr 136 (.tmp 2) 0,0,"check.go:41",#[],Z⟩:=M;tp d ((FX (F0 J) J).a a (fD.a a []) c b.e _ _ _ _ _)<|b.a (fu.a a) A J J
def aqK:px 2:=λf k l g h e j c a b i=>have d:(lr lv.body)[2]?=Q ⟨Q 7,.fieldAddr 136 (.tmp 3) 0,0,"check.go:41",#[],Z⟩:=M;tp d ((FX (F0 J) J).a a (fD.a a []) c b.e _ _ _ _ _)<|b.a (fu.a a) A J J
def aqN:px 5:=λf k l g h e j c a b i=>have d:(lr lv.body)[5]?=Q ⟨Q 10,.fieldAddr 136 (.tmp 2) 1,0,"check.go:41",#[],Z⟩:=M;tp d ((FX (F0 J) J).a a (fD.a a []) c b.e _ _ _ _ _)<|b.a (fu.a a) A J J
def aqP:px 7:=λf k l g h e j c a b i=>have d:(lr lv.body)[7]?=Q ⟨Q 12,.fieldAddr 136 (.tmp 3) 1,0,"check.go:41",#[],Z⟩:=M;tp d ((FX (F0 J) J).a a (fD.a a []) c b.e _ _ _ _ _)<|b.a (fu.a a) A J J
def aqG:px 1:=by
 intro h l m i j g k d b a e;let c:(lr lv.body)[1]?=Q ⟨Q 6,.load 9<|.tmp 5,9,"check.go:41",#[⟨0,.data⟩],Z⟩:=M
 obtain⟨v,f,rfl⟩:=a.c c 0 J e A;exact tp c ((CR (C2 J) J<|CU (a.f 0 _ J)<|Cr b _<|a.f 0 _ J).a b (fD.a b []) d (a.b f) _ _ _ _ _)<|a.a (fu.a b) A J J
def aqL:px 3:=by
 intro h l m i j g k d b a e;let c:(lr lv.body)[3]?=Q ⟨Q 8,.load 9<|.tmp 7,9,"check.go:41",#[⟨2,.data⟩],Z⟩:=M
 obtain⟨v,f,rfl⟩:=a.c c 0 J e A;exact tp c ((CR (C2 J) J<|CU (a.g 0 _ J)<|Cr b _<|a.g 0 _ J).a b (fD.a b []) d (a.b f) _ _ _ _ _)<|a.a (fu.a b) A J J
def aqO:px 6:=by
 intro h l m i j g k d b a e;let c:(lr lv.body)[6]?=Q ⟨Q 11,.load 9<|.tmp 10,9,"check.go:41",#[⟨5,.data⟩],Z⟩:=M
 obtain⟨v,f,rfl⟩:=a.c c 0 J e A;exact tp c ((CR (C2 J) J<|CU (a.f 1 _ J)<|Cr b _<|a.f 1 _ J).a b (fD.a b []) d (a.b f) _ _ _ _ _)<|a.a (fu.a b) A J J
def aqQ:px 8:=by
 intro h l m i j g k d b a e;let c:(lr lv.body)[8]?=Q ⟨Q 13,.load 9<|.tmp 12,9,"check.go:41",#[⟨7,.data⟩],Z⟩:=M
 obtain⟨v,f,rfl⟩:=a.c c 0 J e A;exact tp c ((CR (C2 J) J<|CU (a.g 1 _ J)<|Cr b _<|a.g 1 _ J).a b (fD.a b []) d (a.b f) _ _ _ _ _)<|a.a (fu.a b) A J J
def aqM:px 4:=by
 intro h p q j k g m i f a c;let b:(lr lv.body)[4]?=Q ⟨Q 9,.call ⟨.value<|.func 168,#[.tmp 6,.tmp 8],#[9,9]⟩,3,"check.go:41",#[⟨1,.data⟩,⟨3,.data⟩],Z⟩:=M
 obtain⟨v,e,rfl⟩:=a.c b 0 J c A;obtain⟨n,d,rfl⟩:=a.c b 1 J c A;refine K6 b Rp (a.d e d) J<|uB (ZU _ _ f) ?_;rintro l o⟨rfl,rfl⟩;exact⟨_,J,a.a (fu.a _) A J J⟩
def aqR:px 9:=by
 intro h p q j k g m i f a c;let b:(lr lv.body)[9]?=Q ⟨Q 14,.call ⟨.value<|.func 168,#[.tmp 11,.tmp 13],#[9,9]⟩,3,"check.go:41",#[⟨6,.data⟩,⟨8,.data⟩,⟨4,.chain⟩],Z⟩:=M
 obtain⟨v,e,rfl⟩:=a.c b 0 J c A;obtain⟨n,d,rfl⟩:=a.c b 1 J c A;refine K6 b Rp (a.d e d) J<|uB (ZU _ _ f) ?_;rintro l o⟨rfl,rfl⟩;exact⟨_,J,a.a (fu.a _) A J J⟩
def aqH:px 10:=by
 intro n b c p q m u o f a g;have d:(lr lv.body)[10]?=Q ⟨Q 15,.buildSlice 54 2 #[(0,.tmp 9),(1,.tmp 14)],54,"check.go:41",#[⟨4,.data⟩,⟨9,.data⟩],Z⟩:=M
 obtain⟨v,l,rfl⟩:=a.c d 0 J g A;obtain⟨w,k,rfl⟩:=a.c d 1 J g A;refine tp d (ac9 (g:=[.int .i64<|lq b.b c.b,.int .i64<|lq b.a c.a]) (a.d l k) (C4 J) (ade J) J J J J M)<|a.a (fu.b f _) A J ⟨aj f.heap,J,by rw[World.size_alloc];omega,λe t=>?_⟩;have j:=Ct f<|.cells (E [kN .i64<|lq b.b c.b,kN .i64<|lq b.a c.a]) 3;rw[rZ,j];rcases dy 0 e with r|s;have h:e=1:=L
 subst h;rfl;have i:e=0:=L
 subst i;rfl
def aqI:px 11:=by
 intro j q r l m i o k h a f;let b:(lr lv.body)[11]?=Q ⟨Q 16,.call ⟨.value<|.func 167,#[.tmp 15],#[54]⟩,3,"check.go:41",#[⟨10,.data⟩,⟨9,.chain⟩],Z⟩:=M
 obtain⟨v,g,c,rfl,e,d⟩:=a.c b 0 J f A;refine K6 b acZ (a.b g) J<|uB (arC c _ _ h e d) ?_;rintro n p⟨rfl,rfl⟩;exact⟨_,J,a.a (fu.a _) A J J⟩
def aqJ:px 12:=by
 intro h l m i j g k d b a e;let c:(lr lv.body)[12]?=Q ⟨Q 4,.assign<|.tmp 16,3,"check.go:41",#[⟨11,.data⟩,⟨11,.chain⟩,⟨0,.phase⟩,⟨1,.phase⟩,⟨2,.phase⟩,⟨3,.phase⟩,⟨4,.phase⟩,⟨5,.phase⟩,⟨6,.phase⟩,⟨7,.phase⟩,⟨8,.phase⟩,⟨9,.phase⟩,⟨10,.phase⟩,⟨11,.phase⟩],Z⟩:=M
 obtain⟨v,f,rfl⟩:=a.c c 0 J e A;exact tp c ((jC J).a b (fD.a b []) d (a.b f) _ _ _ _ _)<|a.a (fu.a b) A J J
def aqS:∀a,a<13->px a|0,_=>aqF|1,_=>aqG|2,_=>aqK|3,_=>aqL|4,_=>aqM|5,_=>aqN|6,_=>aqO|7,_=>aqP|8,_=>aqQ|9,_=>aqR|10,_=>aqH|11,_=>aqI|12,_=>aqJ|c+13,b=>L
def Fh:aj (lr lv.body)=13:=M
def aqU:(fX 13).all (λb=>match(lr lv.body)[b]? with|Q c=>c.after.toList.all (λa=>!hY .any a||cc a.on b)|Z=>K)=K:=M
def aqT(b)(d)(a)(c:(lr lv.body)[b]?=Q d)(f:a∈d.after)(e:hY .any a=K):a.on<b:=by let i:b<13:=Fh▸(uw.1 c).1;let g:=lR.1 aqU b<|pr.2 i;rw[c]at g;let h:=lR.1 g a (by simpa using f);rw[e]at h;simpa using h
def aqV{g b a e f c d i h k}(o:yd [(2,xy c 0),(3,xy d 0)] g)(p:fu b a)(m:∀j x,(cz e)[j]?=Q x->a.cell? ⟨c,0+j,Z⟩=Q x)(n:∀j y,(cz f)[j]?=Q y->a.cell? ⟨d,0+j,Z⟩=Q y)(l:∀w,fu b w->kQ T 17 .normal [(4,.int .i64<|xx e f)] w [] [] gI.a i h k):ly T 17 (.region 1 (lr lv.body) K) g a [] [] gI.a i h k:=⟨λq g=>wp_region_any ac4 (by let i:fu a {a with drawn:=a.drawn+1}:=⟨⟨J,J,J,bd _,λ_ _=>rfl⟩,mM _⟩;refine acV (a:=ra b e f c d) (λs r a z=>z.i▸Fh▸J) aqT (λu q a k r t=>?_) (λu q a r h=>?_) _ _ q _ ⟨vS▸Fh▸J,g.g o,p.c i,m,n,λj w s=>?_⟩ ?_;refine aqS k ?_ b e f c d _ u q a r t;let⟨d,b,_⟩:=(mem_ready.1 t).2;rw[<-Fh];exact(uw.1 b).1;obtain⟨v,c,rfl⟩:=r.h 12 A<|h 12 (by rw[Fh];decide);exact(l a r.k).a q<|r.b c;rw[qV]at s;rw[Qb]at s;split at s<;>cases s;rw[Array.toList_replicate,asx];simp)⟩
def arD(a c)(b):th T 166 #[.agg (E<|cz a),.agg (E<|cz c)] b λe k=>e=.returned (.int .i64<|xx a c)/\fu b k:=by refine F2 abw J ntmps166<|gr<|i7<|Rn J J<|Rn J J<|eU J (jC J)<|i8<|gs<|gr ?_;let f:fu b (b.alloc<|.cells (E<|cz a) 136):=fu.b _ _;let h:=Ct b<|.cells (E<|cz a) 136;let i:=Ct (b.alloc<|.cells (E<|cz a) 136)<|.cells (E<|cz c) 136;refine aqV (e:=a) (f:=c) lS (f.c<|fu.b _ _) (λj m d=>?_) (λj n d=>?_) λl g=>?_;refine Jw (fu.b (b.alloc<|.cells (E<|cz a) 136)<|.cells (E<|cz c) 136).1 ?_;rw[rZ,h];simpa using d;rw[rZ,i];simpa using d;exact gs<|ye<|acT J J g
def arV:Go.Shelf.Ren:=⟨λ|6=>266|15=>335|14=>334|28=>371|29=>372|20=>363|21=>364|22=>365|23=>366|24=>367|25=>368|26=>369|27=>370|46=>386|47=>387|48=>388|49=>389|50=>390|57=>399|a=>a,λ|22=>47|24=>136|25=>276|3=>3|39=>103|0=>0|53=>448|55=>252|4=>4|46=>442|45=>441|50=>410|5=>5|9=>9|66=>464|70=>468|76=>480|77=>371|b=>b,λ|c=>c⟩
def Z7:atc T arV:={mixed:=M,f6:=⟨f266.name,A,QV.trans<|b9 Q M⟩,f14:=⟨f334.name,A,func334.trans<|b9 Q M⟩,f15:=func335.trans<|b9 Q M,f20:=⟨f363.name,A,func363.trans<|b9 Q M⟩,f21:=⟨f364.name,A,func364.trans<|b9 Q M⟩,f22:=⟨f365.name,A,func365.trans<|b9 Q M⟩,f23:=⟨f366.name,A,func366.trans<|b9 Q M⟩,f24:=⟨f367.name,A,func367.trans<|b9 Q M⟩,f25:=⟨f368.name,A,func368.trans<|b9 Q M⟩,f26:=⟨f369.name,A,func369.trans<|b9 Q M⟩,f27:=⟨f370.name,A,func370.trans<|b9 Q M⟩,f28:=func371.trans<|b9 Q M,f29:=func372.trans<|b9 Q M,f46:=⟨f386.name,A,func386.trans<|b9 Q M⟩,f47:=func387.trans<|b9 Q M,f48:=func388.trans<|b9 Q M,f49:=⟨f389.name,A,func389.trans<|b9 Q M⟩,f50:=⟨f390.name,A,func390.trans<|b9 Q M⟩,f57:=⟨f399.name,A,func399.trans<|b9 Q M⟩,t0:=underlying0,a0:=isAgg0,z0:=sizeOf0,v0:=zeroValue0,t3:=underlying3,a3:=isAgg3,z3:=sizeOf3,v3:=zeroValue3,t4:=underlying4,a4:=isAgg4,z4:=sizeOf4,v4:=zeroValue4,t5:=underlying5,a5:=isAgg5,z5:=sizeOf5,v5:=zeroValue5,t9:=underlying9,a9:=isAgg9,z9:=sizeOf9,v9:=zeroValue9,t22:=underlying47,a22:=isAgg47,z22:=sizeOf47,v22:=zeroValue47,t25:=underlying276,a25:=isAgg276,z25:=sizeOf276,v25:=zeroValue276,t39:=underlying103,a39:=isAgg103,z39:=sizeOf103,v39:=zeroValue103,t45:=underlying441,a45:=isAgg441,z45:=sizeOf441,v45:=zeroValue441,t46:=underlying442,a46:=isAgg442,z46:=sizeOf442,v46:=zeroValue442,t50:=underlying410,a50:=isAgg410,z50:=sizeOf410,v50:=zeroValue410,t53:=underlying448,a53:=isAgg448,z53:=sizeOf448,v53:=zeroValue448,t55:=underlying252,a55:=isAgg252,z55:=sizeOf252,v55:=zeroValue252,t66:=underlying464,a66:=isAgg464,z66:=sizeOf464,v66:=zeroValue464,t70:=underlying468,a70:=isAgg468,z70:=sizeOf468,v70:=zeroValue468,t76:=underlying480,a76:=isAgg480,z76:=sizeOf480,v76:=zeroValue480,t77:=underlying371,a77:=isAgg371,z77:=sizeOf371,v77:=zeroValue371}
def ZT{a b}:lq a b<0↔mQ a b=K:=by
 rw[lq];split;next d=>simp[d]
 next c=>split;simp[c];simp[c]
def ZS{a b}:lq a b=0↔a=b:=by
 rw[lq];constructor;intro c;split at c;cases c;next e=>split at c;cases c;next f=>rcases KL a b with d|d|d;exact aE d e;exact d;exact aE d f
 intro c;subst c;rw[KK];rfl
def Pz(a b):ltOf xx a b=pw a b:=by rw[ltOf,xx,pw];by_cases c:a.b=b.b;rw[aC<|ZS.2 c,iy c,c,KK];simp only[qa,xV];rw[Kk,decide_eq_true_eq];exact ZT;rw[ak<|λd=>c<|ZS.1 d,ps c];simp only[qW,Qg];rw[Kk,decide_eq_true_eq];exact ZT
def Z1{a b}(c:pw a b=N):a=b\/pw b a=K:=by rcases act a b with d|d|d;rw[c]at d;cases d;exact .inl d;exact .inr d
def arW:SWO (ltOf xx)where
 irrefl j:=by rw[Pz,Q8]
 trans k l n d e:=by rw[Pz]at*;exact KJ d e
 ntrans h m i b c:=by rw[Pz]at*;cases a:pw h i with|false=>rfl|true=>rcases Z1 b with rfl|f;rw[a]at c;cases c;rcases Z1 c with rfl|g;rw[a]at b;cases b;have:=KJ (KJ a g) f;rw[Q8]at this;cases this
def aqW(a b c)(d)(e:Inhabited bA):CmpLays T 166 #[] cz 2 xx a b c d:=λk l j _ h i=>(arD h i _).mono λ_ _⟨f,g⟩=>⟨f,g.d⟩
def ZW:∀(c:W bA)(j b)(e)(g),c[j]?=Q e->(cz e)[b]?=Q g->(c.flatMap cz)[j*2+b]?=Q g|[],_,_,_,_,i,_=>by simp at i|s::q,0,p,u,t,k,m=>by cases k;show(cz s++q.flatMap cz)[0*2+p]?=Q t;rwa[P7,eK,gh<|CQ m]|f::d,j+1,a,r,h,l,n=>by show(cz f++d.flatMap cz)[(j+1)*2+a]?=Q h;let o:Y (cz f)=2:=rfl;rw[md L,o,show(j+1)*2+a-2=j*2+a by omega];exact ZW d j a r h l n
def ZX[Inhabited bA](a)(j)(b:j<aj a*2):(a.toList.flatMap cz)[j]?=Q ((Co cz 2 a)[j]!):=by
 rw[get_flatK cz 2 a j b];let c:j/2<aj a:=L
 let e:(aG a)[j/2]?=Q a[j/2]!:=FJ▸zH c▸getElem!_pos a (j/2) c▸J;let d:j%2<Y (cz a[j/2]!):=by show j%2<2;omega
 let f:(cz a[j/2]!)[j%2]?=Q (cz a[j/2]!)[j%2]!:=e7 d▸getElem!_pos (cz a[j/2]!) (j%2) d▸J;have:=ZW (aG a) (j/2) (j%2) _ _ e f;rwa[show j/2*2+j%2=j by omega]at this
def My(a):∀c:W bA,bm a (an<|c.map du)=Q (c.flatMap cz)|[]=>rfl|b::d=>by let e:=My a d;rw[c4,jT];show bm a (O b.b::O b.a::an (d.map du))=_;simp only[bm,aT,e];rfl
section
variable{u:U}{y x w:Nat}{z:W bA}
def UT{a d c e b}(f:th a d c e b):CallsIn (bt Z) 0 a d c e b:=(callsIn_wide).2 f
def aoJ:D u T 266 [ab,.f 166 [] []] y [] (λj e d=>j=.c []/\e=y/\d=[]) H:=by
 refine⟨⟨_,QV,J⟩,λc h o f q m b l k g a=>?_⟩;have i:k=[.slice Z 0 0,.func (.func 166) #[] #[]]:=by simp only[bm,aT]at a;exact(cx a).symm
 subst i;refine UT<|uB (AnyF.slices_SortFunc_none Z7 Z 0 _ l) ?_;rintro n p⟨rfl,rfl⟩;exact .inl ⟨.c [],y,c,_,b,⟨[],bq,bw.h h f⟩,J,fq.c _ _,J,g⟩
def aoK(b:w=Y z)(a:w<=2000000):D u T 266 [.d x 0 w 0,.f 166 [] []] y [(x,.b 136 2 w<|an<|z.map du)] (λh f e=>∃c:W bA,c.Perm z/\h=.c []/\f=y/\e=[(x,.b 136 2 w<|an<|c.map du)]) H:=by
 subst b;refine⟨⟨_,QV,J⟩,λi b m hb p c h e q k s=>?_⟩;letI g:Inhabited bA:=⟨⟨bU,bU⟩⟩;have i:=b.a (l:=0) J;let⟨c,m,⟨v,p,r,n,l,hc,hd,ha,d⟩,f⟩:=k.b x _ i;rw[My]at r;cases r;have o:q=[.slice (Q ⟨c.1,0,Z⟩) (Y z) c.2,.func (.func 166) #[] #[]]:=by simp only[bm,aT,m,dD]at s;exact(cx s).symm
 subst o;have r:=k.h i m;have f:HoldsK cz 2 e c.1 0 (E z):=by intro j t;rw[size_flatK]at t;(have v:j<Y z*2:=by simpa using t);constructor;have q:=ZX (E z) j (by simpa using v);rw[show aG z.toArray=z from rfl,<-d,pW,aC v]at q;show e.cell? ⟨c.1,0+j,Z⟩=Q _;rw[eK];simp only[rZ,l];simpa using q;simp only[World.frozen?,l];simp
 have o:=enters_of abw M J;have n:=AnyQ.slices_SortFunc Z7 2 (λs=>(RF J s).1) (λe=>(RF J e).2) cz (λ_=>rfl) (λs q d=>by simp[cz]at d;rcases d with rfl|rfl<;>rfl) xx arW 166 #[] c.1 0 c.2 (E z) e o (aqW c.1 0 (aj z.toArray) e g) f r (by simp;omega);refine UT<|uB n ?_;rintro g s⟨rfl,d,f,o,t,-,rfl⟩;obtain⟨g,-,q⟩:=t;have n:aG (d.extract 0<|aj z.toArray)=aG d:=by rw[<-g];simp
 have t:aG (z.toArray.extract 0<|aj z.toArray)=z:=az
 rw[n,t]at q;have n:aj d=Y z:=by simpa using g
 have r:=(pt (xs:=d)).trans n;have v:e1 h c (.b 136 2 (Y z)<|an<|d.toList.map du) (JF id (zs e f) c.1 0<|Co cz 2 d).heap[c.1]?:=by refine⟨_,putCells id 0 (Co cz 2 d) p,My h _,by rw[ZG,r],?_,hc,hd,by simp[putCells,ha],?_⟩;show((zs e f).heap.modify c.1 _)[c.1]?=_;rw[ux,aC J,show(zs e f).heap=e.heap from rfl,l];rfl;apply qR;intro j;rw[pW];by_cases g:j<aj d*2;rw[aC (by rwa[n]at g),ZX d j g,FJ];(have l:j<aj p:=by rw[ha];omega);simp[putCells,l,g];rw[ak (by rwa[n]at g),ix (by rw[ZG,r];omega)]
 have l:=k.f (q:=JF id (zs e f) c.1 0<|Co cz 2 d) i m bq (by rw[size_putRow];rfl) (λp a=>by show((zs e f).heap.modify c.1 _)[p]?=_;rw[ux,ak<|λi=>a i.symm];rfl) _ v;have k:=l.e (b:=sortWorldK cz 2 e c.1 0 f d o) ⟨J,J,J,by show aj (JF id (zs e f) c.1 0<|Co cz 2 d).heap<=aj ((JF id (zs e f) c.1 0<|Co cz 2 d).heap++o);rw[xT];exact P5 _ _,λm a=>by show((JF id (zs e f) c.1 0<|Co cz 2 d).heap++o)[m]?=_;rw[xS a]⟩;refine .inl ⟨.c [],y,_,_,h,⟨[(x,.b 136 2 (Y z)<|an<|d.toList.map du)],⟨aG d,q,J,J,J⟩,?_⟩,J,fq.c _ _,J,k⟩;exact(bw.h b hb).g (r:=0) J _
end
section
variable{w:U}{u x z:Nat}{y:W bA}
def yy(a y:W bA):Prop:=(∀b,b∈a↔b∈y)/\Y a<=Y y
def aoz(a:(z,.a [.g x])∈w)(b:Y y<=2000000):D w T 164 [.f 267 [] [.a z 0],.f 166 [] []] u [(x,dH y)] (λr _ k=>∃j h,yy j y/\LP r j h/\k=(x,dH y)::h) H:=by refine qA func164 J ntmps164 λ_ _ _ _ e=>?_;refine cD<|aq 1 [] [(4,ab)] []<|fx<|aq 1 [] [(6,X.f 267 [] [.a z 0])] []<|kY [0] [0] e aI J J J J (aos a b) (λc m=>.inl m) (λ_ _ o=>o.elim) ?_;rintro v a _⟨b,t,f,n,rfl⟩;rcases n with⟨rfl,rfl,rfl⟩|⟨d,c,i,rfl,rfl⟩;exists _,J;refine aq 1 [] [(5,ab)] []<|fx<|aq 2 [] [(8,ab),(9,X.f 166 [] [])] []<|kY [] [] e aI J J J J (aoJ (u:=[])) nofun (λ_ _ p=>p.elim) ?_;rintro _ _ _⟨rfl,rfl,rfl⟩;exists _,J;refine fx<|aq 2 [] [(4,ab)] []<|cb<|ev<|cg<|eg [0] (.inr J) aI J A ⟨[],[],f,.inl bq,J⟩;exists _,J;refine aq 1 [] [(5,X.d d 0 c 0)] []<|fx<|aq 2 [] [(8,X.d d 0 c 0),(9,X.f 166 [] [])] []<|kY [1] [1] e aI J J J J (aoK (u:=[]) i L) nofun (λ_ _ q=>q.elim) ?_;rintro _ _ _⟨s,g,rfl,rfl,rfl⟩;exists _,J;refine fx<|aq 2 [] [(4,X.d d 0 c 0)] []<|cb<|ev<|cg<|eg [1,0] (.inr J) aI J A ⟨s,_,⟨λl=>(g.mem_iff).trans<|f.1 l,g.length_eq▸f.2⟩,.inr ⟨d,c,g.length_eq▸i,J,J⟩,J⟩
def UF{a:W bA}{b:Nat}{c:bA}(d:a[b]?=Q c):aR (an<|a.map du) (0+b*2) 2=du c:=by rw[eK];exact A6 (UH a) (by rw[cv,d];rfl)
def Y3{a}:∀{c:W bA}{d:Nat},c[d]?=Q a->gR (an<|c.map du) (d*2) (du a)=an (c.map du)|[],_,f=>by cases f|z::j,0,g=>by cases g;rfl|z::k,b+1,h=>by let i:=Y3 (by simpa using h);(let e:(b+1)*2=b*2+1+1:=L);rw[c4,jT];(conv=>rhs;rw[<-i]);rw[e];rw[gR];show O z.b::O z.a::_++_++_=_;rw[show b*2+1+1+Y (du a)=b*2+Y (du a)+1+1 by omega];rfl
def Uc(z:bA):Prop:=bf z.b<=4000000/\bf z.a<=4000000
def wy(v:X)(c:Nat)(b:P)(a:W bA):Prop:=(a=[]/\v=ab)\/∃d,d=Y a/\v=.d c 0 d 0/\b=.b 136 2 d (an<|a.map du)
def ahs(a:Y y<=2000000)(b:∀z∈y,Uc z):D w T 106 [.g x] u [(x,dH y)] (λd _ p=>∃o n l,yy o y/\wy d n l o/\p=[(n,l)]) H:=by
 refine ai func106 8 [] λt=>?_;refine ae J [] (akr (s:=[])) (hc:=nofun) ?_;rintro _ _ _⟨rfl,rfl,rfl⟩;refine ae J [1] (aoz (w:=[(u,.a [.g x])]) (.head _) a) (hc:=λf c=>by cases c with|head=>exact .inr<|.head _|tail _ r=>cases r) ?_;rintro v q _⟨f,j,i,e,rfl⟩;rcases e with⟨rfl,rfl,rfl⟩|⟨d,c,p,rfl,rfl⟩;apply I 12 [];refine gN (g:=Unit) 0 (λ_ _=>True) (λg _=>[(3,ab),(10,V 0),(11,B g)]) (λ_ _=>[(x,dH y)]) () [0] C er J λg _ k e _=>?_;apply bO 6 [];refine aP J (λj=>aE (cM (c:=0) j)<|J7 _)<|λ_=>?_;apply aa 2 [];apply ch;refine aL (.b _) 9 [] ?_;refine af [0] J ?_;exists[],x,dH y,i,.inl av;let m:∀z∈f,Uc z:=λz a=>b z<|(i.1 z).1 a;let b:c<=2000000:=by have:=i.2;omega
 apply I 12 [];refine gN (g:=Unit) c (λk n=>True) (λh o=>[(2,ab),(3,X.d d 0 c 0),(9,X.d d 0 c 0),(10,B c),(11,B h)]) (λl q=>[(d,P.b 136 2 c<|an<|f.map du)]) () [1] (C) gq J λg e q o h=>?_;apply bO 6 [];refine aP J (λk=>?_)<|λk=>?_;let n:=cM k;let⟨e,h⟩:=a1 (b:=f) (a:=g) L;let⟨b,l⟩:=m e<|bl h;apply aa 7 [];refine cl (v:=.a d<|0+g*2) (fi J J J M L) ?_;refine mo (he:=0) (v:=.b [O e.b,O e.a]) J J J J (by let m:=xa (x:=T) (e:=136) (a:=2) (c:=0+g*2) (d:=.b 136 2 c<|an<|f.map du) (b:=an<|f.map du) M M J (by rw[UF h];rfl);rw[UF h]at m;exact m) J ?_;refine I 5 [0] ?_;refine bD (j:=4) bC t ?_;refine aW (hb:=[0,0]) (a:=[(9,.a d<|0+g*2)]) (hn:=⟨λ_ _ _=>b6 J<|fi J J J M L,C⟩) 4 [0,1,2,3,5,6,9] λt m r=>?_;refine ae J [] ((Hl<|gU b).a (u:=[]) (t:=λ_=>False)) ?_;rintro _ _ _⟨rfl,rfl,rfl⟩;refine r ?_;refine aW (hc:=[0]) (a:=[(9,.a d<|0+g*2)]) (hn:=⟨λ_ _ _=>b6 J<|fi J J J M L,C⟩) 7 [] λa r s=>?_;refine ae J [] ((Hl<|gU l).a (u:=[]) (t:=λ_=>False)) ?_;rintro _ _ _⟨rfl,rfl,rfl⟩;refine s ?_;refine aW (a:=[(9,.a d<|0+g*2)]) (hn:=⟨λ_ _ _=>b6 J<|fi J J J M L,C⟩) 10 [8] λb s t=>?_;refine g3 (m:=1) (i:=2) (a:=[O e.b,O e.a]) [(q,.a [O e.b,O e.a]),(d,.b 136 2 c<|an<|f.map du)] J J J J J J M J J J (by simp only[pj];rw[UG];omega) (by let s:=Y3 h;rw[eK];show[_,(d,P.b 136 2 c<|gR (an<|f.map du) (g*2)<|du e)]=_;rw[s]) ?_;refine t (v:=.c []) ?_;refine bF [] ?_;refine aL .a 3 [] ?_;refine cH ?_;refine I 2 [] ?_;exact eI () [1] n (C) gq<|J;let a:=e6 o k;refine aa 2 [] ?_;refine ch ?_;refine aL (.b _) 9 [] ?_;refine af [0] J ?_;exact⟨f,d,_,i,.inr ⟨c,p,J,J⟩,J⟩
end
def hV{a b}(c:(!(aF a b))=K):b<=a:=by by_cases d:a<b;rw[dK.2 d]at c;cases c;omega
section
variable{x:U}{y:c1}{z:Nat}
def l3.b{c}(d:l3 c):bf c<=12:=by have:=hV d.1.2;simp only[dw]at this;omega
def HG{a}(b:aM a ⟨#[]⟩=K):bf a=0:=by have:=ej b;rw[this];rfl
def qs.b{e c}(d:qs e c):bf c.b<=12:=by cases f:ao c.a 3 with|true=>exact(d.2.1 f).b|false=>rw[HG<|d.2.2 f];omega
def Wx{b:c3}(a:GY b):bf b.a.b<=12/\bf b.a.d.b<=12/\Y b.a.a<=6/\∀d∈b.a.a,bf d.b<=12:=by
 have d:∀{c:W a7},ao (.ofNat<|Y c) 0=K->Y c<=6/\∀e∈c,bf e.b<=12:=λ{c}a=>by have u:=dc.1 a;(have w:Y c=0:=by simp only[dw]at u;omega);have x:=JS w;subst x;exact⟨az,nofun⟩
 have v:∀{z:Int}{i:ac},(ao z 0&&aM i ⟨#[]⟩)=K->bf i<=12:=λa=>by rw[cQ]at a;rw[HG a.2];omega
 cases f:ao (is b.b) 4 with|true=>let⟨j,_,n,q⟩:=a.1 f;exact⟨j.b,v q,d n⟩|false=>have a:=a.2 f;cases g:ao (is b.b) 5 with|true=>let⟨k,_,o,r⟩:=a.1 g;exact⟨k.b,r.b,d o⟩|false=>have a:=a.2 g;cases h:ao (is b.b) 6 with|true=>let⟨l,_,e,s⟩:=a.1 h;have:=hV e.1;simp only[dw]at this;exact⟨l.b,s.b,L,λb y=>(e.2 b y).b⟩|false=>let⟨m,_,p,t⟩:=a.2 h;exact⟨by rw[HG m];omega,v t,d p⟩
def wW{a c d}(b:DJ a c d):ad a.b<33/\a.b=.ofNat (ad a.b):=by let e:=hV b.1.1;let f:=hV b.1.2;simp only[dw];omega
def amm{a:c3}(b:ad a.b=2\/ad a.b=3)(c:a.b=.ofNat (ad a.b)):is a.b=2:=by rw[c];rcases b with b|b<;>rw[b]<;>rfl
def aml{b:c3}(c:qz (ad b.b)=K)(a:b.b=.ofNat (ad b.b)):is b.b=3:=by
 unfold qz at c;split at c;next d=>rw[a,d];rfl
 next e=>rw[a,e];rfl
 next f=>rw[a,f];rfl
 next g=>rw[a,g];rfl
 cases c
def Ih{a c e}(b:DJ a c e)(d:ad a.b=2\/ad a.b=3):(!(aF a.c 0))=K/\aF a.c c=K:=by let f:=b.2.1;rw[GX]at f;rw[amm d (wW b).2]at f;exact(f J).1 J
def Wv{a e c}(b:DJ a e c)(d:qz (ad a.b)=K):∃h,a.c=.ofNat h/\h<c:=by let f:=b.2.1;rw[GX]at f;rw[aml d (wW b).2]at f;let j:=(f J).2 J;let g:=j.1 J;rw[cQ]at g;let k:=hV g.1;let i:=dK.1 g.2;simp only[dw]at i;exact⟨ad a.c,by simp only[dw];omega,L⟩
def Jk(y):Y (jr y)=lh y.l:=by rw[jr,lh];cases y.l.g<;>rfl
def tR{z}(a:la z):z.b=.ofNat (ad z.b)/\ad z.b<=20/\lh z<=ad z.b:=by let⟨_,_,_,⟨c,d⟩,_⟩:=a;let b:=hV c;let e:=hV d;simp only[dw]at b⊢;omega
def aiR{a:W i6}{b:i6}(c:b∈a):∃j,j<Y a/\a[j]?=Q b:=by let⟨j,d⟩:=iI.1 c;exists j,(bc.1 d).1
def NP{z}(a:la z):Y z.f<=60/\C5 z.f/\∀b∈z.f,z.b=.ofNat (Y b.a)/\Y b.b<=20/\wI tL b.a/\wI tL b.b:=by
 let⟨_,_,_,_,⟨c,w⟩,_,_,d⟩:=a;let b:=hV w;refine⟨by have:=hV d.1;simp only[dw]at this;omega,?_,λg v=>?_⟩;intro e j g h a r l;induction j generalizing h with|zero=>omega|succ j x=>let u:=(bc.1 l).1;let⟨f,c⟩:=a1 (b:=z.f) (a:=j) L;let i:=(d.2 (j+1) u h l).1.1;(let n:wJ z.f (j+1)=f.c:=by show((z.f[j]?).map (·.c)).getD (-1)=_;rw[c];rfl);rw[n]at i;let p:=dK.1 i;rcases dy e j with k|k;have:=x f k c;omega;(have:e=j:=L);subst this;rw[r]at c;cases c;exact p
 let⟨j,s,t⟩:=aiR v;let⟨_,⟨m,o⟩,q,y⟩:=d.2 j s g t;have:=hV o;simp only[dw]at this;exists(dc.1 m).symm,L,q
def akc(a:la y.l)(b:qo x y.l y.d y.c y.a y.b):T6 x y (ad y.l.b):=by let f:=NP a;let g:=tR a;let⟨_,p,_,_,⟨r,o⟩,c,k,_⟩:=id a;let q:=hV o;let j:=hV c.1.2;let l:=hV k.1;simp only[dw]at j l;exact⟨⟨b.d,f.2.1,L,λh m=>(f.2.2 h m).1,λi n=>by have:=(f.2.2 i n).2.1;omega⟩,b,L,L,g.1,L,L,by rw[Jk];exact g.2.2,λe d=>⟨(wW<|c.2 e d).1,(wW<|c.2 e d).2,by have:=(Wx (c.2 e d).2.2).2.2.1;omega,Ih<|c.2 e d⟩⟩
end
def hT(b:Nat)(a:W bA):Prop:=Y a<=b/\∀c∈a,bf c.b<=12/\bf c.a<=12
def iE(a:W a7):Prop:=∀b∈a,bf b.b<=12
def hT.a{e d b}(c:hT e b)(f:e<=d):hT d b:=⟨df c.1 f,c.2⟩
section
variable{x:c1}{y:Nat}{z:W bA}
def ags{a}(b:hT y z)(c:bf a.b<=12)(d:bf a.a<=12):hT (y+1) (rz z a):=by rw[rz];split;refine⟨by rw[bJ];have:=b.1;simp;omega,λf g=>?_⟩;rcases dl.1 g with e|e;exact b.2 f e;rw[eY.1 e];exists c;exact b.a<|mM _
def UD{a b}(c:hT y z)(d:bf a<=12)(e:bf b<=12):hT (y+1) (iT x a b z).2:=by rw[iT];cases aM a b||aM b gW with|true=>exact c.a<|mM _|false=>cases(gG a).isSome with|true=>exact c.a<|mM _|false=>cases aM a x.i.d&&aM b x.i.b with|true=>exact c.a<|mM _|false=>exact ags c d e
def Na{a b}(c:hT y z)(d:bf a.b<=12)(e:bf b.b<=12):hT (y+1) (gf x a b z).2:=by rw[gf];cases ao a.a b.a&&aM a.b b.b with|true=>exact c.a<|mM _|false=>cases ao a.a 5 with|true=>exact c.a<|mM _|false=>cases ao a.a 3&&ao b.a 3 with|true=>exact UD c d e|false=>exact c.a<|mM _
def Oy{a:a7->a7->W bA->aJ×W bA}(b:∀{g h:a7}{y:Nat}{z:W bA},hT y z->bf g.b<=12->bf h.b<=12->hT (y+1) (a g h z).2):∀{f:W (a7×a7)}{y:Nat}{z i:W bA},hT y z->(∀k∈f,bf k.1.b<=12/\bf k.2.b<=12)->f.foldl (lN a) (Q z)=Q i->hT (y+Y f) i|[],y,z,u,m,_,l=>by cases l;exact m|c::w,y,z,v,n,e,d=>by rw[qS]at d;cases j:(a c.1 c.2 z).1 with|true=>rw[show lN a (Q z) c=Q (a c.1 c.2 z).2 by rw[lN];rw[b2,j];rfl]at d;have:=Oy b (b n (e c<|.head _).1 (e c<|.head _).2) (λt p=>e t<|.tail _ p) d;exact this.a (by rw[de];omega)|false=>rw[show lN a (Q z) c=Z by rw[lN];rw[b2,j];rfl]at d;(let o:∀r:W (a7×a7),r.foldl (lN a) Z=Z:=λs=>by induction s with|nil=>rfl|cons _ _ q=>exact q);rw[o]at d;cases d
def ZE{a b}(c:iE a)(d:iE b):∀f∈a.zip b,bf f.1.b<=12/\bf f.2.b<=12:=λg e=>⟨c _ (asS e).1,d _ (asS e).2⟩
def ajO{b a y z}(c:hT y z)(d:bf b.b<=12)(e:bf a.b<=12):hT (y+1) (lj x b a z).2:=by rw[lj];cases ao a.a 4 with|true=>exact c.a<|mM _|false=>exact Na c d e
def Xf{e c g d f}(b:hT y z)(h:iE e)(i:iE c)(j:iE g)(k:iE d)(a:iq x e c g d z=Q f):hT (y+(Y c+Y e)) f:=by rw[iq]at a;cases l:ao (.ofNat<|Y c) (.ofNat<|Y d)with|false=>rw[l]at a;cases a|true=>rw[l]at a;let⟨q,o,p⟩:=ay.1 a;let m:=Oy (λb=>Na b) b (ZE i k) o;let n:=Oy (λb=>ajO b) m (ZE h j) p;exact n.a (by simp only[asM];omega)
end
structure gw(h)(g:cd):Prop where
 d:hT h g.c
 b:iE g.b
 c:iE g.a
 e:Y g.b<=20
 f:Y g.a<=20
structure sz(i:c1):Prop where
 f:bf i.i.d<=12
 d:iE i.l.d
 g:bf i.l.a.b<=12
 h:i.l.h<=20
 b:∀j∈i.l.f,iE j.a/\iE j.b/\Y j.a<=20/\Y j.b<=20
 a:∀k∈i.l.c,bf k.a.b<=12/\bf k.a.d.b<=12/\Y k.a.a<=6/\iE k.a.a
 c:Y i.l.e<=10/\∀l∈i.l.e,bf l.a<=12
 e:Y i.l.c<=200
def akd{b}(c:bf b.i.d<=12)(a:la b.l):sz b:=by
 let o:=NP a;let r:=tR a;let⟨_,t,u,_,⟨d,v⟩,f,h,_⟩:=id a;let m:=hV f.1.2;let p:=hV h.1;simp only[dw]at m p;refine⟨c,λa w=>(t.2 a w).b,u.b,hV v,λi s=>?_,λz q=>Wx (f.2 z q).2.2,⟨L,λd n=>?_⟩,L⟩;let⟨e,f,k,l⟩:=o.2.2 i s;rw[r.1]at e;have:=Cz e;existsλb x=>(k b x).b,λc y=>(l c y).b,L
 let j:=(h.2 d n).2.2;cases g:aM d.a ⟨#[]⟩with|true=>rw[HG g];omega|false=>exact(j (by rw[g];rfl)).b
section
variable{y:c1}{z:Nat}{x w:cd}{u:c3}
def gw.a{h}(g:gw z x)(i:z<=h):gw h x:=⟨g.d.a i,g.b,g.c,g.e,g.f⟩
def iE.a{c}(d:iE c):iE c.dropLast:=λf e=>d f<|(List.dropLast_sublist c).subset e
def iE.b{c d}(e:iE c)(f:bf d.b<=12):iE (c++[d]):=λi h=>by rcases dl.1 h with g|g;exact e i g;rw[eY.1 g];exact f
def yD{c}(b:gw z x)(d:bf c.b<=12)(a:e3 y c x=Q w):gw (z+1) w:=by rw[e3]at a;split at a;cases a;next e g=>cases f:(gf y e c x.c).1 with|false=>rw[f]at a;cases a|true=>rw[f]at a;cases a;exact⟨Na b.d (b.c e<|aaH g) d,b.b,b.c.a,b.e,by have:=b.f;rw[JY];omega⟩
def IU{c}(a:gw z x)(b:lp x=Q (c,w)):gw z w/\bf c.b<=12:=by rw[lp]at b;split at b;cases b;next e d=>cases b;exact⟨⟨a.d,a.b,a.c.a,a.e,by have:=a.f;rw[JY];omega⟩,a.c c<|aaH d⟩
def yX{c}(e:sz y)(b:gw z x)(d:bf c.b<=12)(a:eE y c x=Q w):gw z w:=by rw[eE]at a;cases f:aF (.ofNat<|Y x.a) y.l.h with|false=>rw[f]at a;cases a|true=>rw[f]at a;cases a;let g:=dK.1 f;let h:=e.h;simp only[dw]at g;exact⟨b.d,b.b,b.c.b d,b.e,by rw[bJ,fB];omega⟩
def ajy{b}(c:gw z x)(a:qD b x=Q w):gw z w:=by rw[qD]at a;split at a;cases a;next e g f=>cases d:wS b e.a with|false=>rw[d]at a;cases a|true=>rw[d]at a;cases a;exact(IU c f).1
def Zp{b}(a:iE b):∀{j z x w},gw z x->pP y b j x=Q w->gw (z+j) w|0,z,x,w,f,e=>by cases e;exact f|j+1,z,x,w,d,c=>by rw[pP]at c;split at c;cases c;exact d.a L;next k i=>let⟨l,g,h⟩:=ay.1 c;exact(Zp a (yD d (a k<|bl i) g) h).a L
def Pc{a}(d:iE a)(e:Y a<=6)(c:gw z x)(b:fU y a x=Q w):gw (z+6) w:=(Zp d c b).a L
def aps(a:sz y)(b:u∈y.l.c):∀(x w),gw z x->hE y u (ad u.b) x=Q w->gw (z+7) w:=by
 let⟨c,l,m,n⟩:=a.a u b;let g:bf cN.b<=12:=A
 let j:bf mh.b<=12:=A
 let k:bf (fa eo).b<=12:=A
 let g:=c;let e:∀{o:W a7},(∀h∈o,h=cN\/h=mh\/h=fa eo)->iE o:=λ{q}p d t=>by rcases p d t with rfl|rfl|rfl<;>assumption
 generalize f:hE y u (ad u.b)=i;unfold hE at f;split at f<;>subst f<;>intro x w d c<;>first|(cases c;exact d.a L)|exact(yD d g c).a L|exact(yD d l c).a L|exact(Pc n m d c).a L|exact(Pc (e az) az d c).a L|exact(ajy d c).a L|(rw[xt]at c;obtain⟨f,r,rfl⟩:=b3.1 c;let⟨e,q⟩:=IU d r;exact⟨e.d.a L,λh v=>by rcases asQ v with b|rfl;exact e.b h b;exact q,e.c,by show Y (f.2.b.set _ _)<=_;rw[ib];exact e.e,e.f⟩)|(obtain⟨p,s,rfl⟩:=b3.1 c;exact(IU d s).1.a L)|(let⟨o,i,j⟩:=ay.1 c;first|exact(yD (yD d l i) g j).a L|exact(yD (Pc n m d i) g j).a L)|(cases k:ao y.l.a.a 0 with|false=>rw[k]at c;(first|cases c|exact(yD d a.g c).a L)|true=>rw[k]at c;first|(cases c;exact d.a L)|cases c)
def ajV(a:sz y)(b:u∈y.l.c):∀(x w),gw z x->iG y u (ad u.b) x=Q w->gw z w:=by
 let⟨p,q,t,v⟩:=a.a u b;let l:bf cN.b<=12:=A
 let n:bf mh.b<=12:=A
 let k:bf KM.b<=12:=A
 let j:=p;generalize e:iG y u (ad u.b)=s;unfold iG at e;split at e<;>subst e<;>intro x w d c<;>first|(cases c;exact d)|exact yX a d l c|exact yX a d n c|exact yX a d k c|exact yX a d j c|(rw[vq]at c;split at c;cases c;next h o=>cases f:ao h.a 4 with|true=>rw[f]at c;cases c|false=>rw[f]at c;exact yX a d (d.b h<|bl o) c)|(let⟨r,m,i⟩:=ay.1 c;exact yX a d (IU (w:=r.2) d m).2 i)|(cases g:ao u.a.d.a 0 with|true=>rw[g]at c;cases c;exact d|false=>rw[g]at c;exact yX a d q c)
def Xe{a b e c d}(j:sz y)(g:hT z c)(h:iE a)(i:iE b)(f:ll y a b e c=Q d):hT (z+(Y b+Y a)) d:=let⟨k,o,n⟩:=ay.1 f;let⟨l,m,_⟩:=j.b k<|wP o;Xf g h i l m n
def ai3{f c d}(e:sz y)(a:gw z x)(b:g9 y f c d x=Q w):gw (z+40) w:=by rw[g9]at b;cases c with|true=>obtain⟨h,g,rfl⟩:=b3.1 b;exact⟨(Xe e a.d a.b a.c g).a (by have:=a.e;have:=a.f;omega),a.b,a.c,a.e,a.f⟩|false=>cases b;exact⟨a.d.a L,a.b,a.c,a.e,a.f⟩
def akf{d}(c:sz y)(b:gw z x)(a:rP y d x=Q w):gw (z+40) w:=by
 rw[rP]at a;split at a;cases i:x.d with|true=>rw[i]at a;cases a;exact b.a L|false=>rw[i]at a;cases a
 next g m=>let⟨e,f,h,o⟩:=c.b g<|wP m;cases k:rI g.b fP with|true=>rw[k]at a;cases a|false=>rw[k]at a;cases j:x.d with|true=>rw[j]at a;obtain⟨n,l,rfl⟩:=b3.1 a;exists(Xf b.d b.b b.c e f l).a (by have:=b.e;have:=b.f;omega),e,f,h|false=>rw[j]at a;cases a;exists b.d.a L,e,f,h
def amt{a}(b:bf a<=12):bf (lL [a,eo])<=12:=by rw[lL];simp only[uq,List.find?_nil];cases aM a bU with|true=>exact(show bf eo<=12 by decide)|false=>exact b
def Wj{a b}(d:sz y)(c:iE a)(e:Y a<=20):∀{i:W jA}{z:Nat}{j l:W bA},(∀u∈i,bf u.a<=12)->hT z j->i.foldl (mz y a b) (Q j)=Q l->hT (z+22*Y i) l|[],z,g,h,_,v,s=>by cases s;exact v|h::n,z,k,m,o,q,g=>by rw[qS]at g;cases f:mz y a b (Q k) h with|none=>(let x:∀j:W jA,j.foldl (mz y a b) Z=Z:=λl=>by induction l with|nil=>rfl|cons _ _ i=>exact i);rw[f,x]at g;cases g|some t=>rw[f]at g;(let w:hT (z+22) t:=by rw[mz]at f;rw[b2]at f;cases m:(!(aF b h.c))&&aF b h.d with|false=>rw[m]at f;cases f;exact q.a L|true=>rw[m]at f;simp only[b4]at f;rw[vt]at f;cases n:(iT y (lL [h.a,eo]) eo k).1 with|false=>rw[n]at f;cases f|true=>rw[n]at f;simp only[b4]at f;let p:=amt<|o h<|.head _;let r:=UD (x:=y) q p (show bf eo<=12 by decide);exact(Xe d r c (λk b=>eY.1 b▸p) f).a (by simp only[de,hH];omega));exact(Wj d c e (λf a=>o f<|.tail _ a) w g).a (by rw[de];omega)
def aoZ{e}(b:sz y)(c:u∈y.l.c)(d:gw z x)(a:uc y e u x=Q w):gw (z+307) w:=let⟨p,g,a⟩:=ay.1 a;let⟨m,h,a⟩:=ay.1 a;let⟨q,i,a⟩:=ay.1 a;let⟨r,j,k⟩:=ay.1 a;have f:=akf b d g;have n:gw (z+260) m:=(by obtain⟨o,l,rfl⟩:=b3.1 h;exact⟨(Wj b f.b f.e b.c.2 f.d l).a (by have:=b.c.1;omega),f.b,f.c,f.e,f.f⟩);(ai3 b (ajV b c _ _ (aps b c _ _ n i) j) k).a L
def V8(b:sz y)(a:gw z x):∀{d w},fs y x d=Q w->gw (z+307*d) w|0,w,e=>by cases e;exact a|i+1,w,c=>by let⟨h,f,c⟩:=ay.1 c;let⟨u,g,c⟩:=ay.1 c;exact(aoZ b (bl g) (V8 b a f) c).a L
def ai1{b c}(a:sz y)(f:Y (jr y)<=b)(g:b<=20)(e:hT z c)(d:rH y ⟨c,em y b,[],K⟩=Q w):hT (z+61400) w.c:=by
 let⟨q,m,i⟩:=ay.1 d;let n:gw z ⟨c,em y b,[],K⟩:=by refine⟨e,λl p=>?_,nofun,by rwa[yP f],eL _⟩;rcases dl.1 p with h|h;rw[jr]at h;(cases k:y.l.g with|true=>rw[k]at h;exact a.d l h|false=>rw[k]at h;cases h with|head=>exact a.f|tail _ h=>exact a.d l h);rw[(List.mem_replicate.1 h).2];decide
 let o:=V8 a n m;cases j:q.d with|true=>rw[j]at i;cases i|false=>rw[j]at i;cases i;exact o.d.a (by have:=a.e;omega)
end
def dj(a:dM)(c:Nat)(b:cK):c1:=⟨a,.c [],.c [],0,c,b,.c [],.c [],.c [],.c []⟩
def jj(a:dM):Nat->S (W bA)|0=>Q []|b+1=>(jj a b).bind λd=>(a.a[b]?).bind λc=>(rH (dj a b c) ⟨d,em (dj a b c)<|ad c.b,[],K⟩).map (·.c)
def il(a:dM):S (W bA):=jj a<|Y a.a
def Uz{a b}(c:a.i=b.i):e3 a=e3 b:=by let⟨d,f,h,j,v,l,t,n,r,p⟩:=a;let⟨e,g,i,k,w,m,u,o,s,q⟩:=b;simp only at c;subst c;rfl
def Zo{c d}(b:c.i=d.i)(a):∀j,pP c a j=pP d a j|0=>rfl|j+1=>by funext e;unfold pP;rw[Uz b,Zo b a j]
def apr{a b}(c:a.i=b.i)(f:a.l=b.l)(d)(e):hE a d e=hE b d e:=by
 let g:=Uz c;let h:fU a=fU b:=by funext j i;unfold fU;rw[Zo c]
 unfold hE;rw[g,h,f]
def aoY{a b}(e:a.i=b.i)(f:a.l=b.l)(g)(c)(d):uc a g c d=uc b g c d:=by
 let h:∀d,yL a c d=yL b c d:=λd=>by rw[yL];rw[apr e f];let⟨i,m,q,u,v,y,r,g,n,j⟩:=a;let⟨k,o,s,w,x,d,t,i,p,l⟩:=b;simp only at e f;subst e;subst f;rfl
 rw[uc];rw[show yL a c=yL b c from funext h];let⟨j,n,r,v,w,z,s,c,o,k⟩:=a;let⟨l,p,t,x,y,a,u,h,q,m⟩:=b;simp only at e f;subst e;subst f;rfl
def V7{c d}(e:c.i=d.i)(a:c.l=d.l)(b):∀f,fs c b f=fs d b f|0=>rfl|g+1=>by rw[fs];rw[V7 e a b g,a];congr 1;funext i;congr 1;funext h;exact aoY e a _ _ _
def V6{b c}(e:b.i=c.i)(d:b.l=c.l)(a):rH b a=rH c a:=by unfold rH;rw[V7 e d a,d]
def VU{a b}(d:a.i=b.i)(e:a.l=b.l)(c):em a c=em b c:=by unfold em jr;rw[d,e]
def Hh{c}(b:gv c):∀{a e},jj c a=Q e->hT (61400*a) e|0,n,i=>by cases i;exact⟨eL _,nofun⟩|a+1,o,d=>by let⟨m,j,d⟩:=ay.1 d;let⟨l,g,d⟩:=ay.1 d;obtain⟨p,k,rfl⟩:=b3.1 d;let h:=(b.2.2.2.2 a (bc.1 g).1 l g).1;let f:=tR h;exact(ai1 (akd b.1.b h) (by rw[Jk];exact f.2.2) f.2.1 (Hh b j) k).a L
def Hg{a b}(c:jj a b=Z):∀e,jj a (b+e)=Z|0=>c|d+1=>by show(jj a<|b+d).bind _=Z;rw[Hg c d];rfl
section
variable{x:U}{y:Nat}{z:dM}{u w:X}
def fm.a{f}(e:fm x z u w)(d:∀r∈x,r∈f):fm f z u w:=⟨aK.b e.b d,e.c.b d λ_ _⟨h,j,l,m,n,g⟩=>⟨h,j,l,m,n,⟨g.f.a d,g.c.b d λ_ _ e=>lG.a _ _ _ _ e d,g.e.a d,g.d.b d λ_ _⟨i,k,o,p,q⟩=>⟨i,k,o,p.a d,q.a d⟩⟩⟩⟩
def ahv{b e d a}(g:jj z b=Q e)(f:z.a[b]?=Q d)(h:a.i=z)(i:a.l=d)(c:(il z).isSome=K):(rH a ⟨e,em a<|ad d.b,[],K⟩).isSome=K:=by subst h;subst i;rw[V6 (b:=a) (c:=dj a.i b a.l) J J,VU (a:=a) (b:=dj a.i b a.l) J J];let s:=(bc.1 f).1;cases l:jj a.i (b+1)with|none=>let k:=Hg l<|Y a.i.a-(b+1);rw[show b+1+(Y a.i.a-(b+1))=Y a.i.a by omega]at k;rw[il]at c;rw[k]at c;cases c|some q=>let⟨r,j,n⟩:=ay.1 l;rw[g]at j;cases j;let⟨u,m,o⟩:=ay.1 n;rw[f]at m;cases m;let⟨t,p,_⟩:=b3.1 o;rw[p];rfl
def aht{b d c a f}(g:jj z b=Q d)(h:z.a[b]?=Q c)(i:a.i=z)(j:a.l=c)(e:rH a ⟨d,em a<|ad c.b,[],K⟩=Q f):jj z (b+1)=Q f.c:=by subst i;subst j;rw[V6 (b:=a) (c:=dj a.i b a.l) J J,VU (a:=a) (b:=dj a.i b a.l) J J]at e;show(jj a.i b).bind _=_;rw[g,b2,h,b2,e];rfl
def afC{i o p l q e b h y f k j g d c a n m}(r:a[n]?=Q (m,.c []))(s:aH i o p l q e b h k f j g d c y (a.set n (m,dH []))):aH i o p l q e b h k f j g d c y a:=afB r (λt=>⟨#[],t,J,J,(λv u=>by simp at u),tc,tc⟩) s
def ahr(a:fm x z u w)(b:iA z):D x T 58 [.b [O z.d,O z.b,u,w]] y [] (λe _ d=>∃g c t m,gv z/\il z=Q g/\yy c g/\wy e t m c/\d=[(t,m)]) (fF<|gv z/\(il z).isSome=K):=by
 let e:∀i∈x,i∈tS (y+2)++x:=λj l=>bo _ l;let o:∀j∈tS (y+2),j∈tS (y+2)++x:=λk r=>bS _ r;let q:=(a.a e).c;let⟨d,i,k⟩:=q.c;refine ai func58 9 [0] λh=>?_;refine a2 J (OT a b) (hc:=λ_ _ c=>ar<|c.a λb=>b.1) ?_;rintro _⟨rfl,e⟩;refine I 10 []<|afC (n:=0) J ?_;refine b7 J 2 0 [] ((ahu (z:=y+2)).a (u:=[])) (hg:=λ_ _ b=>ar<|i4 b) ?_;rintro _ _ _⟨rfl,rfl,rfl⟩;apply I 3 [];refine Dz (f:=tS (y+2)++x) [0,1] [1,0] h (λl s=>(dl.1 s).elim (λf=>.inr (by show l∈tS (y+2)++[];rw[eF];exact f)) .inl) λ_ _ h=>?_;apply bO 5 [1];apply ck i k;apply I 4 [];refine gN (g:=W bA) (Y z.a) (λf p=>jj z f=Q p) (λh l=>[(1,X.a y 0),(2,ab),(3,X.g<|y+1),(4,X.d (y+2+94) 0 33 0),(13,w),(14,B<|Y z.a),(15,B h)]) (λi b=>[((y+1),dH b),(y,P.a [O z.d,O z.b,u,w])]) [] [0,1] (J) ⟨J,J,J,J,J,J,J,C⟩ J λs l c p i=>?_;let f:Y z.a<=20:=by have:=hV e.2.2.2.1;simp only[dw]at this;omega
 apply bO 6 [];refine aP J (λf=>?_)<|λf=>?_;let h:=cM f;let⟨k,d⟩:=a1 h;obtain⟨_,⟨t,m,r,n,rfl,c⟩,j⟩:=q.d d;let q:la k:=(e.2.2.2.2 s h k d).1;apply aa 7 [];refine gk j λ_ _=>?_;apply I 2 [];refine dk 0 ?_ (hb:=c.a);apply I 10 [2,0];refine dk 0 ?_ (hb:=by simp only[co,cA,aK.a a.b,c7.a a.c,aK.a c.f,c7.a c.c,aK.a c.e,c7.a c.d];rfl);refine I 4 [] ?_;refine ae J [0,2] (ap2 (x:=tS (y+2)++x) (d:=y+2) (z:=⟨z,u,w,y+1,.ofNat s,k,t,m,r,n⟩) (c:=l) o (ape o)<|akc q c) (he:=λ_ _ a=>ar<|a.a λg=>ahv i d J J g.2) ?_;rintro _ o _⟨g,n,rfl,rfl⟩;refine I 4 [] ?_;refine cH ?_;refine I 2 [] ?_;exact eI g.c [0,2] h (aht i d J J n) ⟨J,J,J,J,J,J,J,C⟩<|J;let m:=e6 p f;let r:il z=Q l:=by unfold il;rw[<-m];exact i
 let j:=Hh e r;refine aa 2 [] ?_;refine ch ?_;refine aL (.b _) 5 [] ?_;refine ae J [0] (ahs (w:=[]) (by have:=j.1;omega)<|λn p=>⟨by have:=(j.2 n p).1;omega,by have:=(j.2 n p).2;omega⟩) (he:=λ_ _ d=>ar<|i4 d) ?_;rintro v s _⟨q,k,a,t,o,rfl⟩;refine I 4 [] ?_;refine af [0] J ?_;exact⟨l,q,k,a,e,r,t,o,J⟩
end
section
variable{x t:U}{y:Nat}{z:dM}{w u:X}
def ahe{d:cV}{c:W X}{a:X->Nat->U->Prop}{b:bh->Prop}(e:∀y,D t T d c y [] a b)(f:∀k,b k->Ay k):D t T 56 [.f d [] c] y [] (λl _ i=>(∃v n,a v n i/\l=.c [v,bN])\/∃u v,b u/\su v/\l=.c [ab,v]/\i=[]) H:=by refine ai func56 9 [] λx=>?_;refine GI J J J J J<|I 5 [] ?_;refine b7 J 1 0 [] (e _) (hg:=λw _ j=>by let⟨g,q,r,b,c,s⟩:=(f w j).a;subst s;exact DI<|cg<|T0 (j:=0) (h:=[(2,ab),(3,.a 0 0)]) (b:=g) (hd:=[ab,g]) aI (ank _ _) r J J lS M (λ_ p=>p.f (p:=[]) A)<|.inr ⟨_,g,j,q,J,J⟩) ?_;rintro m o h z;apply I 5 [0];apply cg;refine TX (j:=0) (l:=[(2,dd m),(3,.a 0 0)]) (ha:=[m,bN]) (.inr J) aI D9 J J ⟨by rw[iu (by rw[bi];simp)];rfl,J,C⟩ M (En (a:=[(y,.a [bN])]) (b:=(h++[])) [] A) ?_;exact .inl ⟨_,o,(by show a _ _ ([]++(h++[]));rwa[se,eF]),J⟩
def ahk{a}(b:fm x z w u)(c:iA z):∀y,D ((a,.a [O z.d,O z.b,w,u])::x) T 57 [.a a 0] y [] (λr _ h=>∃e g f d,gv z/\il z=Q e/\yy g e/\wy r f d g/\h=[(f,d)]) (fF<|gv z/\(il z).isSome=K):=by intro y;refine ai func57 7 [] λp=>?_;refine fp p J J J (.head _) M J<|ae J [] (ahr (b.a λ_ k=>.tail _ k) c) ?_;rintro v t _⟨j,s,q,i,l,m,n,o,rfl⟩;refine I 4 []<|af [0] J ?_;exists j,s,q,i,l,m,n,o
def U1{a}(b:fm x z w u)(c:iA z):D ((a,.a [O z.d,O z.b,w,u])::x) T 56 [.f 57 [] [.a a 0]] y [] (λh _ d=>(∃v f i g e,h=.c [v,bN]/\gv z/\il z=Q f/\yy i f/\wy v g e i/\d=[(g,e)])\/∃v,¬(gv z/\(il z).isSome=K)/\su v/\h=.c [ab,v]/\d=[]) H:=(ahe (ahk b c)<|λh l=>l.2).a (λj _ f m=>m.imp (λ⟨v,g,⟨k,e,d,j,o,q,s,a⟩,c⟩=>⟨v,k,e,d,j,c,o,q,s,a⟩) λ⟨i,v,p,r,t,b⟩=>⟨v,p.1,r,t,b⟩)<|λ_ n=>n
def ahm{a:W bA}(c:fm x z w u)(e:iA z)(d:gv z)(b:il z=Q a):D x T 18 [.b [O z.d,O z.b,w,u]] y [] (λm _ n=>∃v l j f,yy l a/\wy v j f l/\n=[(j,f)]/\m=.c [v,V 0,V 0,V 0]) H:=by let j:∀{h y:Nat},D ((h,.a [O z.d,O z.b,w,u])::x) T 56 [.f 57 [] [.a h 0]] y [] (λn _ o=>∃v m k g,yy m a/\wy v k g m/\o=[(k,g)]/\n=.c [v,bN]) H:=(U1 c e).a (λf _ s r=>by rcases r with⟨v,t,q,k,p,c,_,i,e,f,g⟩|⟨v,a,_⟩;rw[b]at i;cases i;exists v,q,k,p,e,f,g;exact(a ⟨d,by rw[b];rfl⟩).elim)<|λ_ s=>s;refine ai func18 12 [] λd=>?_;refine ae J [] (j) (hc:=λa h=>by cases h with|head=>exact .inr (by simp[cS,hD])|tail _ t=>exact .inl t) (he:=λ_ _ i=>ar<|i4 i) ?_;rintro _ r _⟨o,p,l,q,b,c,rfl,rfl⟩;apply I 10 [];refine sy [] [] aI J J J J (Pm) J ?_;apply I 9 [0];refine bD (j:=1) bC d ?_;refine bF (c:=[0,0]) [0,1,2,3,4,5,6,7,8,9] ?_;apply aL .a 2 [];refine af [1] J ?_;exists o,p,l,q,b,c,J
def ahl(a:fm x z w u)(c:iA z)(b:¬(gv z/\(il z).isSome=K)):D x T 18 [.b [O z.d,O z.b,w,u]] y [] (λd _ h=>∃j l g,g≠0/\d=.c [ab,V j,V l,V g]/\h=[]) H:=by let g:∀{f y:Nat},D ((f,.a [O z.d,O z.b,w,u])::x) T 56 [.f 57 [] [.a f 0]] y [] (λe _ i=>∃v,su v/\e=.c [ab,v]/\i=[]) H:=(U1 a c).a (λn _ f o=>by rcases o with⟨v,i,p,m,h,k,d,e,_⟩|⟨v,_,d,e,j⟩;exact(b ⟨d,by rw[e];rfl⟩).elim;exists v,d,e)<|λ_ p=>p;refine ai func18 12 [] λt=>?_;refine ae J [] (g) (hc:=λl a=>by cases a with|head=>exact .inr (by simp[cS,hD])|tail _ q=>exact .inl q) (he:=λ_ _ b=>ar<|i4 b) ?_;rintro _ c _⟨v,r,rfl,rfl⟩;apply I 10 [];refine a2 J (Pl r) ?_;rintro _⟨k,m,n,rfl,s⟩;apply I 9 [0];refine bD (j:=1) bC t ?_;refine bF (c:=[0,0]) [0,1,2,3,4,5,6,7,8,9] ?_;apply aL .a 2 [];refine af [] J ?_;exists k,m,n,s,J
end
noncomputable section
inductive ih where|b(e:Int)|a|d(g:Nat)|c(f:Nat)
structure C6 where
 a:Nat
 b:List ih
inductive dx where|b(e:Nat)|c(e g:Nat)|d(e f:Nat)|a(h:ByteArray)
inductive Af where|c|b|a deriving DecidableEq
structure dg where
 d:ByteArray
 b:List Nat
 c:dM
 g:Af
 e:List Nat
 f:List a7
 h:List a7
 i:List (List<|Option dx)
 a:List ih
structure bV where
 g:Nat
 h:Nat
 c:Nat
 d:Nat
 f:List ih
 a:List ih
 b:Option Nat
 e:Option Nat
structure dX where
 a:Int
 c:Int
 b:ByteArray
structure a8 where
 a:List (ByteArray×ByteArray)
 e:ByteArray
 c:List Int
 d:Nat
 f:Int
 b:Nat
structure ag where
 m:List (ByteArray×ByteArray)
 d:List (ByteArray×dx)
 h:List bA
 b:List bV
 e:Nat
 l:Int
 k:Nat
 c:List dX
 i:Option Nat
 a:List dg
 g:List C6
 f:List (List Int)
def ds(a:Nat):ac:=qc[a]?.getD bU
abbrev Aq:=ds 0
abbrev yh:=ds 1
abbrev cL:=ds 2
abbrev uM:=ds 3
abbrev sp:=ds 4
abbrev tu:=ds 5
abbrev adm:=ds 6
abbrev RQ:=ds 7
abbrev wr:=ds 8
abbrev F8:=ds 9
abbrev Aj:=ds 10
abbrev RR:=ds 11
abbrev Df:=ds 12
abbrev Dc:=ds 13
def b5(a:W (ac×dx))(b:ac):S dx:=(a.find? λc=>cj<|c.1=b).map (·.2)
def eu(c:W (ac×dx))(a:ac)(b:dx):W (ac×dx):=match c with|[]=>[(a,b)]|(j,e)::d=>if j=a then(a,b)::d else(j,e)::eu d a b
def gu(b:ag)(a:ac):S Nat:=match b5 b.d a with|Q (.b c)=>Q c|_=>Z
def bX(a:ag)(b c:Int)(d:ac):ag:={a with c:=a.c++[⟨b,c,d⟩]}
def bY(b:W dg)(a:Nat):W Nat:=match b[a]? with|Q c=>c.b|Z=>[]
def bW(b:W dg)(a:Nat):ac:=match b[a]? with|Q c=>c.d|Z=>bU
def dC(a:W dg)(b:Nat)(c:ac):aJ:=(bY a b).any λd=>cj<|bW a d=c
def hN(a:ag)(b:Nat)(c:dg->dg):ag:={a with a:=a.a.modify b c}
def jc(a:ag)(b:ac):Nat×ag:=(Y a.g,{a with g:=a.g++[⟨(gu a b).getD 0,[]⟩]})
def iM(a:dM)(b:cK):S Nat:=a.a.findIdx? λc=>fM c b
def yo(a:ac)(b:W a7)(c:a7):cK:=⟨a,N,b,c,0,0,[],[],[]⟩
def qh(a:pv):cK:=yo a.c a.a a.d
def Ap:a7:=⟨0,bU⟩
def lV(a:dM)(b:ac):S Nat:=(iM a<|yo b [] Ap).bind λc=>(a.a[c]?).bind λd=>if d.g then Q c else Z
def ax(b:W dg)(a:Nat):dM:=match b[a]? with|Q c=>c.c|Z=>⟨bU,bU,[],[]⟩
def cu(c:W dg)(a b:Nat):cK:=((ax c a).a[b]?).getD<|yo bU [] Ap
def lB(a:W dg)(b:Nat)(c:cK):S (Nat×Nat):=(bY a b).findSome? λd=>(iM (ax a d) c).map λe=>(d,e)
def wo(a:W dg)(b:Nat)(c:ac)(d:a7):S (Nat×Nat):=(bY a b).findSome? λe=>((ax a e).c.findIdx? λf=>aM f.b c&&pe f.c d).map λg=>(e,g)
def mi(a:a7):ih:=if a.a=1 then .b 0 else .a
def gY(a:dg)(b:i5):dg:=if b.a then{a with e:=a.e++[Y a.h],h:=a.h++[b.c],a:=a.a++[mi b.c]}else{a with e:=a.e++[Y a.f],f:=a.f++[b.c]}
def ij(a:dM)(c:Nat)(b:W Nat)(d:W a7):dg:=a.c.foldl gY ⟨a.d,c::b,a,.c,[],d,[],a.a.map λe=>e.c.map λ_=>Z,[]⟩
open Classical in def yj(c:ac):S dM:=if b:∃a,gZ (aG c.data) a then Q (aa4 b)else Z
def gK(b:a8)(a:ac):Except ac dM:=match b.a.filter (λd=>cj<|d.1=a)with|[e]=>(match yj e.2 with|Q c=>if c.d=a then .ok c else .error yh|Z=>.error yh)|_=>.error Aq
def uO(a:W dg)(c:Nat)(b:cK):aJ:=(bY a c).any λd=>match iM (ax a d) b with|Q e=>!((cu a d e).g==b.g)|Z=>N
def c5(b:W dg)(a:Nat):W a7:=match b[a]? with|Q c=>c.f|Z=>[]
def gJ(a:ag)(c:dM)(b:Nat):dx×ag:=let e:=ij c (Y a.a) (bY a.a b)<|c5 a.a b;let d:={a with a:=a.a++[e]};if c.a.any (uO a.a b)then(.a yh,d)else if a.h.any (λf=>cj (f.b=e.d)&&!(dC d.a (Y a.a) f.a))then(.a uM,d)else(.b<|Y a.a,d)
def dN(a:a8):Nat->ac->ag->dx×ag|0,_,l=>(.a Aq,l)|h+1,b,d=>match b5 d.d b with|Q i=>(i,d)|Z=>let f:=bX {d with d:=eu d.d b<|.a cL} 2 0 b;let c:=match gK a b with|.error k=>(dx.a k,f)|.ok e=>match dN a h e.b f with|(.b g,m)=>gJ m e g|(j,n)=>(j,n);(c.1,{c.2 with d:=eu c.2.d b c.1})
def et(b:a8)(a:ac)(c:ag):dx×ag:=dN b 42 a c
def je(a:ag)(b:dM):S ag:=match il b with|Z=>Z|Q d=>if d.all (λc=>match gu a c.b with|Q e=>dC a.a e c.a|Z=>K)then Q {a with h:=a.h++d.filter λf=>(gu a f.b).isNone}else Z
def eO(b:W dg)(a:Nat):Af:=match b[a]? with|Q c=>c.g|Z=>.b
def eX(b:W dg)(a:Nat):Nat:=(((bY b a).filter λc=>cj<|eO b c≠.b).getLast?).getD a
def dn(c:ag)(a:Nat)(b:Af):ag:=hN c a λd=>{d with g:=b}
def eW(b:ag)(a:Nat):ag:=bX (dn b a .a) 5 0<|bW b.a a
def tt(a:a8)(b:ag):aJ:=cj<|Y b.b=a.b
def qi:ac:=⟨#[115,116,97,114,116]⟩
def uR:ac:=⟨#[109,97,105,110]⟩
def ga(a:ag)(b c:Nat)(d:W ih)(e:S Nat):ag:=let f:=ad (cu a.a b c).b;{a with b:=⟨b,c,0,0,(d++e8 (f-Y d) ih.a).take f,[],e,Z⟩::a.b}
def gb(c:a8)(b:ag)(a:Nat):S Nat×ag:=let d:=bX (dn b a .b) 3 0<|bW b.a a;match lV (ax b.a a) qi with|Z=>(Z,bX d 4 0<|bW b.a a)|Q f=>if tt c d then let e:=jc (eW d a) Dc;(Q e.1,e.2)else(Z,ga d a f []<|Q a)
def dO(c:a8)(a:ag)(b:Nat):S Nat×aJ×ag:=if eO a.a b=.b then(Z,K,a)else let d:=eX a.a b;if eO a.a d=.a then let e:=jc a Aq;(Q e.1,K,e.2)else match je a (ax a.a d)with|Z=>let f:=jc (dn a d .a) uM;(Q f.1,K,f.2)|Q h=>match gb c h d with|(Z,i)=>(Z,N,i)|(Q g,j)=>(Q g,K,j)
abbrev tq:=S<|S Nat×ag
def aV(a:ag)(b:bV):ag:={a with b:=b::a.b}
def ep(b:ag)(a:bV)(v:ih):tq:=Q (Z,aV b {a with a:=a.a++[v]})
def eH(a:bV):S (ih×bV):=a.a.getLast?.map λv=>(v,{a with a:=a.a.dropLast})
def hM(a:bV):S (Int×bV):=match eH a with|Q (.b c,b)=>Q (c,b)|_=>Z
def gL(a:bV):S (Int×Int×bV):=match hM a with|Q (c,d)=>(match hM d with|Q (b,e)=>Q (b,c,e)|Z=>Z)|Z=>Z
def iN(a:bV):S (S Nat×bV):=match eH a with|Q (.a,b)=>Q (Z,b)|Q (.c d,c)=>Q (Q d,c)|_=>Z
def kT(a:bV):S (S Nat×bV):=match eH a with|Q (.a,b)=>Q (Z,b)|Q (.d d,c)=>Q (Q d,c)|_=>Z
def fJ(c:ag)(a:bV)(b:ac):tq:=let d:=jc (aV c a) b;Q (Q d.1,d.2)
def rh(a:Int):Int:=gF.wrap a
def lC(a:ag)(b:Int):S ag:=if b>=a.l then Z else Q {a with l:=a.l-(1+b)}
def uP(d:ag)(a:bV)(b:aJ)(c:Int):tq:=Q (Z,aV d<|if b then{a with d:=(ad c)}else a)
def cf(e:a8)(a:ag)(b:bV)(d:Nat)(c:Int):tq:=match d with|0=>Q (Z,aV a b)|1=>ep a b (.b c)|2=>(b.f[(ad c)]?).bind λv=>ep a b v|3=>(eH b).bind λ(v,g)=>if ad c<Y g.f then Q (Z,aV a {g with f:=g.f.set (ad c) v})else Z|4=>(eH b).map λ(_,m)=>(Z,aV a m)|5=>(b.a.getLast?).bind λv=>ep a b v|6=>(gL b).bind λ(u,h,n)=>ep a n<|.b<|rh<|u+h|7=>(gL b).bind λ(w,i,o)=>ep a o<|.b<|rh<|w-i|8=>(gL b).bind λ(x,j,p)=>ep a p<|.b<|rh<|x*j|9=>(gL b).bind λ(y,n,o)=>if n=0 then fJ a o RQ else ep a o (.b<|rh<|y.tdiv n)|10=>uP a b K c|11=>(hM b).bind λ(z,q)=>uP a q (cj<|z=0) c|12=>(gL b).bind λ(d,k,r)=>uP a r (cj<|d<k) c|13=>(eH b).bind λ(v,s)=>uP a s (match v with|.a=>K|_=>N) c|14=>ep a b .a|22=>Q (Z,match b.b with|Q l=>bX a 4 0 (bW a.a l)|Z=>a)|23=>((eH b).bind λ(v,_)=>match a.b with|t::f=>ep {a with b:=f} t v|[]=>Z)|24=>((iN b).bind λ(z,p)=>match z with|Z=>fJ a p wr|Q d=>Q (Q d,aV a p))|25=>Q (Z,aV a b)|26=>(eH b).bind λ(_,u)=>ep a u<|.b 0|27=>(hM b).bind λ(f,w)=>Q (Z,bX (aV a w) 1 f bU)|28=>(match e.c[a.k]? with|Q e=>ep {a with k:=a.k+1} b (.b e)|Z=>ep a b (.b 0))|29=>((hM b).bind λ(f,h)=>if f<0 then fJ a h RR else match lC a f with|Z=>fJ a h Df|Q m=>ep {m with f:=m.f++[e8 (ad f) 0]} h (.d<|Y m.f))|30=>((hM b).bind λ(k,x)=>(kT x).bind λ(e,i)=>match e with|Z=>fJ a i wr|Q g=>(a.f[g]?).bind λr=>if k<0\/k>=Y r then fJ a i Aj else(r[(ad k)]?).bind λg=>ep a i<|.b g)|31=>((gL b).bind λ(l,c,y)=>(kT y).bind λ(h,j)=>match h with|Z=>fJ a j wr|Q t=>(a.f[t]?).bind λs=>if l<0\/l>=Y s then fJ a j Aj else Q (Z,aV {a with f:=a.f.set t<|s.set (ad l) c} j))|32=>((kT b).bind λ(c,q)=>match c with|Z=>fJ a q wr|Q c=>(a.f[c]?).bind λb=>ep a q<|.b<|Y b)|_=>Z
def eM(a:Nat):S Nat:=match a with|15=>Q 0|16=>Q 1|17=>Q 1|18=>Q 2|19=>Q 2|20=>Q 3|21=>Q 4|25=>Q 0|26=>Q 0|_=>Z
def qj(a:Nat):aJ:=match a with|15=>K|18=>K|19=>K|21=>K|_=>N
def rg(a:W dg)(b c:Nat)(d:pv):dx:=match c with|0=>.b b|1|2=>(match wo a b d.c d.d with|Q (e,g)=>(match(ax a e).c[g]? with|Q j=>if j.a=(c==2)then .c e (((a[e]?).bind λi=>i.e[g]?).getD 0)else .a sp|Z=>.a sp)|Z=>.a sp)|_=>(match lB a b (qh d)with|Q (f,h)=>if(cu a f h).g=(c==4)then .d f h else .a tu|Z=>.a tu)
def fk(c:a8)(d:ag)(b:Nat)(a:pv):dx×ag:=match et c a.b d with|(.b f,e)=>(rg e.a f b a,e)|(g,h)=>(g,h)
def jD:dx->S Nat|.b a=>Q a|.c b _=>Q b|.d c _=>Q c|.a _=>Z
def tw(a:bV)(b:Nat):S (W ih×bV):=if b<=Y a.a then Q (a.a.drop<|Y a.a-b,{a with a:=a.a.take<|Y a.a-b})else Z
def lX(a:cK):Nat:=Y a.d+(if a.g then 0 else 1)
def lA(e:a8)(a:ag)(b:bV)(c d:Nat):tq:=if tt e (aV a b)then fJ a b Dc else(tw b<|lX<|cu a.a c d).bind λ(g,f)=>Q (Z,ga (aV a f) c d g Z)
def eV(b:ag)(a:Nat):Nat:=match b.g[a]? with|Q c=>c.a|Z=>0
def dP(d:a8)(a:ag)(b:bV)(c:Nat):dx->tq|.a e=>fJ a b e|.b f=>(match c with|15=>(match lC a (Y<|c5 a.a f)with|Z=>fJ a b Df|Q k=>ep {k with g:=k.g++[⟨f,(c5 a.a f).map mi⟩]} b (.c<|Y k.g))|25=>(match b.a.getLast? with|Q (.c y)=>if dC a.a (eV a y) (bW a.a f)then Q (Z,aV a b)else fJ a b F8|_=>Z)|26=>(match iN b with|Q (Q z,t)=>ep a t (.b<|if dC a.a (eV a z) (bW a.a f)then 1 else 0)|_=>Z)|_=>Z)|.c h e=>(match c with|16=>((iN b).bind λ(f,m)=>match f with|Z=>fJ a m wr|Q g=>(a.g[g]?).bind λp=>(p.b[e]?).bind λv=>ep a m v)|17=>((eH b).bind λ(v,u)=>(iN u).bind λ(i,n)=>match i with|Z=>fJ a n wr|Q o=>(a.g[o]?).bind λg=>if e<Y g.b then Q (Z,aV {a with g:=a.g.set o {g with b:=g.b.set e v}} n)else Z)|18=>(a.a[h]?).bind λq=>(q.a[e]?).bind λv=>ep a b v|19=>(eH b).bind λ(v,w)=>(a.a[h]?).bind λr=>if e<Y r.a then Q (Z,hN (aV a w) h λl=>{l with a:=l.a.set e v})else Z|_=>Z)|.d i j=>(match c with|20=>((b.a.reverse[(Y (cu a.a i j).d)]?).bind λv=>match v with|.a=>fJ a b wr|.c c=>(match lB a.a (eV a c) (cu a.a i j)with|Q (s,x)=>lA d a b s x|Z=>Z)|_=>Z)|21=>lA d a b i j|_=>Z)
def jf(d:ag)(a:bV):S dx:=((d.a[a.g]?).bind λb=>(b.i[a.h]?).bind λc=>c[a.c]?).join
def Gm(c:ag)(a:bV)(b:dx):ag:=hN c a.g λd=>{d with i:=d.i.modify a.h λe=>e.set a.c<|Q b}
def lU(a:bV):S aJ:=a.a.getLast?.map λv=>match v with|.a=>K|_=>N
def gt(d:a8)(a:ag)(e:bV)(b:Nat)(c:pv):dx×ag:=match jf a e with|Q f=>(f,a)|Z=>((fk d a b c).1,Gm (fk d a b c).2 e (fk d a b c).1)
inductive eA where|a|c(h:ag)|b(i:Option Nat)(h:ag)
def eA.d:tq->eA|Z=>.a|Q (h,i)=>.b h i
def mS(c:a8)(e:ag)(a:bV)(b:c3)(d:Nat):eA:=let f:=gt c e a d b.a;match(if qj (ad b.b)then jD f.1 else Z)with|Z=>eA.d (dP c f.2 a (ad b.b) f.1)|Q h=>(match dO c (aV f.2 a) h with|(Z,K,g)=>eA.d (dP c {g with b:=g.b.tail} a (ad b.b) f.1)|(Z,N,j)=>.c j|(Q i,_,k)=>.b (Q i) k)
def ii(c:a8)(b:ag)(a:bV):eA:=match a.e with|Q f=>.b (Q f) (aV b {a with e:=Z})|Z=>match(cu b.a a.g a.h).c[a.c]? with|Z=>.a|Q d=>match eM (ad d.b)with|Z=>eA.d (cf c b a (ad d.b) d.c)|Q e=>if ad d.b=25\/ad d.b=26 then(match lU a with|Z=>.a|Q K=>eA.d (cf c b a (ad d.b) d.c)|Q N=>mS c b a d e)else mS c b a d e
def mj(b:ag)(a:bV)(c:Nat):S jA:=(cu b.a a.g a.h).e.find? λd=>cj (d.c<=a.c/\(a.c:Int)<d.d)&&(cj (d.a=bU)||dC b.a (eV b c) d.a)
def eN(a:ag)(b:Nat):Nat×ag:=if dC a.a (eV a b) jB then(b,a)else jc a adm
def hO(b:ag)(a:Nat):W bV->ag|[]=>{b with b:=[],i:=Q a}|e::c=>match mj b e a with|Q h=>{b with b:={e with d:=(ad h.b),a:=[.c a]}::c}|Z=>match e.b with|Z=>hO b a c|Q f=>let d:=eN (eW {b with b:=c} f) a;match c with|[]=>{d.2 with i:=Q d.1}|g::i=>{d.2 with b:={g with e:=Q d.1}::i}
def tx(a:ag)(b:Nat):ag:=hO a b a.b
def lW(b:a8)(a:ag):S ag:=match a.b with|[]=>Z|d::i=>let g:={d with c:=d.d,d:=d.d+1};match ii b {a with b:=i} g with|.a=>Z|.c e=>Q {e with b:=e.b.modify (Y e.b-Y a.b) λf=>{f with d:=f.c}}|.b j c=>Q (match j with|Q h=>tx {c with e:=c.e+1} h|Z=>{c with e:=c.e+1})
def fQ(a:a8):Nat->ag->S (Int×ac×ag)|0,_=>Z|c+1,b=>if Y b.b=0 then(match b.i with|Q d=>Q (2,bW b.a<|eV b d,b)|Z=>Q (1,bU,b))else if b.e=a.d then Q (4,bU,b)else(lW a b).bind (fQ a c)
def kU(a:a8)(b c:Nat):Nat->ag->S (Int×ac×ag)|0,_=>Z|d+1,k=>match dO a k b with|(Q i,_,e)=>Q (2,bW e.a<|eV e i,e)|(Z,j,l)=>(fQ a d l).bind λ(g,h,f)=>if g=1 then(if j then fQ a d (ga f b c [] Z)else kU a b c d f)else Q (g,h,f)
def jd(a:a8)(b:Nat)(c:ag):S (Int×ac×ag):=match et a a.e c with|(.a g,h)=>Q (3,g,h)|(.b e,d)=>(match lV (ax d.a e) uR with|Q f=>kU a e f b d|Z=>Q (3,tu,d))|(_,i)=>Q (0,bU,i)
def hL:W ac:=[gW,eo,jB]++qc
def e0:W dg:=(fX 17).map λa=>⟨hL[a]?.getD bU,if a=0 then[0]else if a=1 then[1,0]else if a=2 then[2,1,0]else[a,2,1,0],⟨bU,bU,[],[]⟩,.b,[],[],[],[],[]⟩
def es(a:a8):ag:=⟨a.a,(fX 17).map λb=>(hL[b]?.getD bU,.b b),[],[],0,a.f,0,[],Z,e0,[],[]⟩
end
inductive bg{t u:Type}(j:t->u->Prop):List t->List u->Prop|b:bg j [] []|a{p q r s}(v:j p q)(w:bg j r s):bg j (p::r) (q::s)
def ts{a b}:aM a b=K↔a=b:=decide_eq_true_iff
def Sf{a}:∀{d f g},mc a d f=Q g->a∈d|[],_,_,e=>by cases e|h::i,j,k,b=>by rw[mc]at b;split at b;(next c=>rw[cQ]at c;rw[bA.c (ts.1 c.1)<|ts.1 c.2];exact .head _);exact .tail _<|Sf b
abbrev wl:=bA->Prop
def Ah(d:wl)(c:dM)(a b:ByteArray):Prop:=a=b\/b=gW\/((gG a).isSome=K/\Ff a b=K)\/(a=c.d/\b=c.b)\/d ⟨a,b⟩
def kS(c:wl)(d:dM)(b a:a7):Prop:=b=a\/(b.a=5/\(a.a=2\/a.a=3))\/(b.a=3/\a.a=3/\Ah c d b.b a.b)
abbrev qf:=W a7×W a7
structure fZ(e)(g)(j k)(h:qf):Prop where
 d:bg (kS e g) k h.2
 c:bg (λi f=>f.a=4\/kS e g i f) j h.1
def kS.b{d e}(c):kS d e c c:=.inl J
def Le{c a}(b:∀d,a d d):∀e:W c,bg a e e|[]=>.b|f::g=>.a (b f) (Le b g)
def fZ.b{g h}(e f):fZ g h e f (e,f):=⟨Le kS.b _,Le (λi=>.inr<|kS.b i) _⟩
section
variable{z:c1}{y:wl}
def RM{b a}:(∀d∈b,d∈rz b a)/\a∈rz b a:=by
 rw[rz];split;next f=>exact⟨λ_ e=>bS _ e,bo _ az⟩
 next g c=>exact⟨λ_ c=>c,Sf c⟩
def RW(z)(a b)(c):∀e∈c,e∈(iT z a b c).2:=by intro f d;rw[iT];cases aM a b||aM b gW with|true=>exact d|false=>cases(gG a).isSome with|true=>exact d|false=>cases aM a z.i.d&&aM b z.i.b with|true=>exact d|false=>exact RM.1 f d
def adt{c d e}(a:(iT z c d e).1=K)(b:∀j∈(iT z c d e).2,y j):Ah y z.i c d:=by rw[iT]at a b;cases h:aM c d with|true=>exact .inl<|ts.1 h|false=>cases i:aM d gW with|true=>exact .inr<|.inl<|ts.1 i|false=>rw[h,i]at a b;simp only[Bool.or_self,dE]at a b;cases g:(gG c).isSome with|true=>rw[g]at a;exact .inr<|.inr<|.inl ⟨g,a⟩|false=>rw[g]at a b;simp only[dE]at a b;cases f:aM c z.i.d&&aM d z.i.b with|true=>rw[cQ]at f;exact .inr<|.inr<|.inr<|.inl ⟨ts.1 f.1,ts.1 f.2⟩|false=>rw[f]at b;exact .inr<|.inr<|.inr<|.inr<|b _ RM.2
def Gd(z)(a b)(c):∀e∈c,e∈(gf z a b c).2:=by intro f d;rw[gf];cases ao a.a b.a&&aM a.b b.b with|true=>exact d|false=>cases ao a.a 5 with|true=>exact d|false=>cases ao a.a 3&&ao b.a 3 with|true=>exact RW z _ _ c f d|false=>exact d
def Lj{b d e}(a:(gf z b d e).1=K)(c:∀i∈(gf z b d e).2,y i):kS y z.i b d:=by rw[gf]at a c;cases g:ao b.a d.a&&aM b.b d.b with|true=>rw[cQ]at g;exact .inl<|a7.c (dc.1 g.1)<|ts.1 g.2|false=>rw[g]at a c;simp only[dE]at a c;cases h:ao b.a 5 with|true=>rw[h]at a;simp only[b4,lu]at a;exact .inr<|.inl ⟨dc.1 h,a.imp dc.1 dc.1⟩|false=>rw[h]at a c;simp only[dE]at a c;cases f:ao b.a 3&&ao d.a 3 with|false=>rw[f]at a;cases a|true=>rw[f]at a c;rw[cQ]at f;exact .inr<|.inr ⟨dc.1 f.1,dc.1 f.2,adt a c⟩
def SU{a}:∀b:W (a7×a7),b.foldl (lN a) Z=Z|[]=>rfl|_::c=>SU c
def SS{b a f c e}(d:iv b (a::f) c=Q e):(b a.1 a.2 c).1=K/\iv b f (b a.1 a.2 c).2=Q e:=by rw[iv]at d⊢;rw[qS]at d;cases g:(b a.1 a.2 c).1 with|true=>(let h:lN b (Q c) a=Q (b a.1 a.2 c).2:=by rw[lN];rw[b2,g];rfl);rw[h]at d;exists J|false=>(let i:lN b (Q c) a=Z:=by rw[lN];rw[b2,g];rfl);rw[i,SU]at d;cases d
def Dl{a}(b:∀g h c,∀i∈c,i∈(a g h c).2):∀{o d e},iv a o d=Q e->∀j∈d,j∈e|[],p,r,k,t,m=>by cases k;exact m|v::u,q,s,l,f,n=>Dl b (SS l).2 f (b _ _ _ f n)
def LC{a b}(d:∀o p i,∀r∈i,r∈(a o p i).2)(c:∀e g j,(a e g j).1=K->(∀s∈(a e g j).2,y s)->b e g):∀{f h q k},iv a (f.zip h) q=Q k->(∀t∈k,y t)->Y f=Y h->bg b f h|[],[],_,_,_,_,_=>.b|[],_::_,_,_,_,_,u=>by cases u|_::_,[],_,_,_,_,v=>by cases v|z::e,i::f,g,h,w,n,b=>by let⟨x,m⟩:=SS w;exact .a (c _ _ _ x λl a=>n l<|Dl d m l a)<|LC d c m n (by simpa using b)
def Lr(z)(c a)(b):∀e∈b,e∈(lj z c a b).2:=by intro f d;rw[lj];cases ao a.a 4 with|true=>exact d|false=>exact Gd z _ _ _ f d
def adM{b a e}(c:(lj z b a e).1=K)(d:∀g∈(lj z b a e).2,y g):a.a=4\/kS y z.i b a:=by rw[lj]at c d;cases f:ao a.a 4 with|true=>exact .inl<|dc.1 f|false=>rw[f]at c d;exact .inr<|Lj c d
def SC{g e f d b c}(a:iq z g e f d b=Q c):∀j∈b,j∈c:=by rw[iq]at a;cases i:ao (.ofNat<|Y e) (.ofNat<|Y d)with|false=>rw[i]at a;cases a|true=>rw[i]at a;let⟨n,k,l⟩:=ay.1 a;exactλh m=>Dl (Lr z) l h<|Dl (Gd z) k h m
def SA{e c d b h f}(a:iq z e c d b h=Q f)(g:∀m∈f,y m)(i:Y e=Y d):fZ y z.i e c (d,b):=by rw[iq]at a;cases j:ao (.ofNat<|Y c) (.ofNat<|Y b)with|false=>rw[j]at a;cases a|true=>rw[j]at a;let p:=dc.1 j;simp only[dw]at p;let⟨q,n,l⟩:=ay.1 a;exact⟨LC (Gd z) (λ_ _ _=>Lj) n (λk o=>g k<|Dl (Lr z) l k o) (show Y c=Y b by omega),LC (Lr z) (λ_ _ _=>adM) l g i⟩
end
section
variable{z:c1}{x:wl}{y:c3}
def Ss{d:Type}{a}{c:d}(b:a.getLast?=Q c):a=a.dropLast++[c]:=by rcases EX a with rfl|⟨f,e,rfl⟩;cases b;rw[aaB,aaC]at b;cases b;rw[aau]
def lT{d b c}(a:e3 z d b=Q c):(∀h∈b.c,h∈c.c)/\c.b=b.b/\∃f,b.a=c.a++[f]/\((∀i∈c.c,x i)->kS x z.i f d):=by rw[e3]at a;split at a;cases a;next g k=>cases e:(gf z g d b.c).1 with|false=>rw[e]at a;cases a|true=>rw[e]at a;cases a;refine⟨Gd z _ _ _,J,g,?_,λj=>Lj e j⟩;exact Ss k
def wt{b c d}(a:lp b=Q (d,c)):c.c=b.c/\c.b=b.b/\b.a=c.a++[d]:=by rw[lp]at a;split at a;cases a;next f e=>cases a;exact⟨J,J,Ss e⟩
def ml{d b c}(a:eE z d b=Q c):c.c=b.c/\c.b=b.b/\c.a=b.a++[d]:=by rw[eE]at a;cases e:aF (.ofNat<|Y b.a) z.l.h with|false=>rw[e]at a;cases a|true=>rw[e]at a;cases a;exists J,J
def Lq{d b c}(a:qD d b=Q c):c.c=b.c/\c.b=b.b/\∃f,b.a=c.a++[f]/\f.a∈d:=by rw[qD]at a;split at a;cases a;next g n l=>cases e:wS d g.a with|false=>rw[e]at a;cases a|true=>rw[e]at a;cases a;let⟨h,i,j⟩:=wt l;exists h,i,g,j;let⟨o,m,k⟩:=fO.1 e;rwa[dc.1 k]
def bg.f{s r j p}{q:r}:∀{t:W s}{u:W r},bg j t u->j p q->bg j (t++[p]) (u++[q])|_,_,.b,v=>.a v .b|_,_,.a w y,x=>.a w (y.f x)
def Ta{a}:∀{j e c},j<=a.length->pP z a j e=Q c->(∀b∈e.c,b∈c.c)/\c.b=e.b/\∃f,e.a=c.a++f/\((∀b∈c.c,x b)->bg (kS x z.i) f (a.take j))|0,e,c,_,d=>by cases d;exact⟨λ_ d=>d,J,[],az,λ_=>by simp;exact .b⟩|j+1,e,c,v,d=>by obtain⟨y,k⟩:=a1 (b:=a) (a:=j) L;rw[Pg k]at d;obtain⟨w,t,u⟩:=ay.1 d;obtain⟨m,n,l,o,p⟩:=lT t;obtain⟨h,q,f,r,s⟩:=Ta L u;refine⟨λb g=>h b<|m b g,q.trans n,f++[l],by rw[o,r,hG],λi=>?_⟩;rw[FA,k];exact(s i).f<|p λb g=>i b<|h b g
def yp{c b a}(d:fU z c b=Q a):(∀f∈b.c,f∈a.c)/\a.b=b.b/\∃e,b.a=a.a++e/\((∀f∈a.c,x f)->bg (kS x z.i) e c):=by obtain⟨g,h,e,i,j⟩:=Ta (bd _) d;rw[td]at j;exists g,h,e,i
def aew:∀(g h),hE z y (ad y.b) g=Q h->∀b∈g.c,b∈h.c:=by generalize d:hE z y (ad y.b)=l;unfold hE at d;split at d<;>subst d<;>intro g h a<;>first|(cases a;exactλ_ a=>a)|exact(lT (x:=λ_=>True) a).1|exact(yp (x:=λ_=>True) a).1|(rw[(Lq a).1];exactλ_ a=>a)|(unfold xt at a;obtain⟨c,f,rfl⟩:=b3.1 a;rw[show({c.2 with lo:=c.2.lo.set y.c.toNat c.1}).g8=c.2.c from rfl,(wt f).1];exactλ_ a=>a)|(obtain⟨c,f,rfl⟩:=b3.1 a;rw[(wt f).1];exactλ_ a=>a)|(let⟨m,i,j⟩:=ay.1 a;first|exactλb e=>(lT (x:=λ_=>True) j).1 b<|(lT (x:=λ_=>True) i).1 b e|exactλb e=>(lT (x:=λ_=>True) j).1 b<|(yp (x:=λ_=>True) i).1 b e)|(cases k:ao z.l.a.a 0 with|false=>rw[k]at a;(first|cases a|exact(lT (x:=λ_=>True) a).1)|true=>rw[k]at a;first|(cases a;exactλ_ a=>a)|cases a)
def wq:∀(c d),iG z y (ad y.b) c=Q d->d.c=c.c/\d.b=c.b:=by generalize b:iG z y (ad y.b)=i;unfold iG at b;split at b<;>subst b<;>intro j k a<;>first|(cases a;exists J)|exact⟨(ml a).1,(ml a).2.1⟩|(rw[vq]at a;split at a;cases a;next h _=>cases f:ao h.a 4 with|true=>rw[f]at a;cases a|false=>rw[f]at a;exact⟨(ml a).1,(ml a).2.1⟩)|(let⟨l,_,e⟩:=ay.1 a;exact⟨(ml e).1,(ml e).2.1⟩)|(cases g:ao y.a.d.a 0 with|true=>rw[g]at a;cases a;exists J|false=>rw[g]at a;exact⟨(ml a).1,(ml a).2.1⟩)
def LK:∀(g h),hE z y (ad y.b) g=Q h->Y h.b=Y g.b:=by generalize c:hE z y (ad y.b)=m;unfold hE at c;split at c<;>subst c<;>intro n k a<;>first|(cases a;rfl)|exact b9 Y (lT (x:=λ_=>True) a).2.1|exact b9 Y (yp (z:=z) (x:=λ_=>True) a).2.1|exact b9 Y (Lq a).2.1|(rw[xt]at a;obtain⟨b,i,rfl⟩:=b3.1 a;rw[show({b.2 with b:=b.2.b.set (ad y.c) b.1}:cd).b=b.2.b.set (ad y.c) b.1 from rfl,ib,(wt (d:=b.1) (c:=b.2) i).2.1])|(obtain⟨l,j,rfl⟩:=b3.1 a;exact b9 Y (wt (d:=l.1) j).2.1)|(let⟨o,d,e⟩:=ay.1 a;first|exact b9 Y<|(lT (z:=z) (x:=λ_=>True) e).2.1.trans (lT (z:=z) (x:=λ_=>True) d).2.1|exact b9 Y<|(lT (z:=z) (x:=λ_=>True) e).2.1.trans (yp (z:=z) (x:=λ_=>True) d).2.1)|(cases f:ao z.l.a.a 0 with|false=>rw[f]at a;(first|cases a|exact b9 Y (lT (z:=z) (x:=λ_=>True) a).2.1)|true=>rw[f]at a;first|(cases a;rfl)|cases a)
def adh(z:c1)(x:wl)(y:c3)(a b:qf):Prop:=∃g e d c f,hE z y (ad y.b) ⟨g,a.1,a.2,e⟩=Q d/\iG z y (ad y.b) d=Q ⟨c,b.1,b.2,f⟩/\∀h∈c,x h
structure Ai(z)(x)(f:Nat->qf):Prop where
 a:fZ x z.i (em z<|ad z.l.b) [] (f 0)
 c:∀e y,z.l.c[e]?=Q y->∃h,adh z x y (f e) h/\(qz (ad y.b)=K->ad y.c<Y z.l.c/\fZ x z.i h.1 h.2 (f<|ad y.c))/\(qw (ad y.b)=N->e+1<Y z.l.c/\fZ x z.i h.1 h.2 (f<|e+1))
 b:∀e g,e<Y z.l.c->g∈z.l.e->g.c<=(e)->(e)<g.d->ad g.b<Y z.l.c/\fZ x z.i (f e).1 [fa<|lL [g.a,eo]] (f<|ad g.b)
def Sp{a b}:∀c:W jA,c.foldl (mz z a b) Z=Z|[]=>rfl|_::d=>Sp d
def Sz{e f c a b}(d:ll z e f c a=Q b):∀g∈a,g∈b:=let⟨i,_,h⟩:=ay.1 d;SC h
def Sq{b a}:∀{s:W jA}{l j:W bA},s.foldl (mz z b a) (Q l)=Q j->(∀w∈l,w∈j)/\∀f∈s,f.c<=a->a<f.d->∃v k,ll z b [fa<|lL [f.a,eo]] f.b v=Q k/\∀x∈k,x∈j|[],l,m,c=>by cases c;exact⟨λ_ d=>d,nofun⟩|d::p,i,n,e=>by rw[qS]at e;cases c:mz z b a (Q i) d with|none=>rw[c,Sp]at e;cases e|some h=>rw[c]at e;let⟨j,k⟩:=Sq e;rw[mz]at c;rw[b2]at c;(let r:(∀y∈i,y∈h)/\(d.c<=a->a<d.d->∃t,ll z b [fa<|lL [d.a,eo]] d.b t=Q h):=by cases g:(!(aF a d.c))&&aF a d.d with|false=>rw[g]at c;cases c;refine⟨λ_ d=>d,λo b=>?_⟩;rw[vn L,Bw b]at g;cases g|true=>rw[g]at c;simp only[b4]at c;rw[vt]at c;cases q:(iT z (lL [d.a,eo]) eo i).1 with|false=>rw[q]at c;cases c|true=>rw[q]at c;simp only[b4]at c;exact⟨λm f=>Sz c m<|RW z _ _ _ m f,λ_ _=>⟨_,c⟩⟩);refine⟨λn g=>j n<|r.1 n g,λa i o p=>?_⟩;cases i with|head=>let⟨u,e⟩:=r.2 o p;exists u,h,e|tail _ h=>exact k a h o p
def Gh{d b c}(a:rP z d b=Q c):(∀m∈b.c,m∈c.c)/\(∀e,my z.l.f d=Q e->c.b=e.a/\c.a=e.b)/\(b.d=K->(∀l∈z.l.f,Y b.b=Y l.a)->(∀n∈c.c,x n)->fZ x z.i b.b b.a (c.b,c.a)):=by
 rw[rP]at a;split at a;next p=>cases h:b.d with|false=>rw[h]at a;cases a|true=>rw[h]at a;cases a;exact⟨λ_ a=>a,(λs a=>by rw[p]at a;cases a),λ_ _ _=>fZ.b _ _⟩
 next g f=>cases j:rI g.b fP with|true=>rw[j]at a;cases a|false=>rw[j]at a;simp only[aa2,b4]at a;cases i:b.d with|false=>rw[i]at a;cases a;exact⟨λ_ a=>a,(λt a=>by rw[f]at a;cases a;exists J),nofun⟩|true=>rw[i]at a;obtain⟨r,k,rfl⟩:=b3.1 a;exact⟨SC k,(λu a=>by rw[f]at a;cases a;exists J),λ_ q o=>SA k o<|q g<|wP f⟩
def uQ{f d e a b}(c:g9 z f d e a=Q b):(∀h∈a.c,h∈b.c)/\b.b=a.b/\b.a=a.a/\b.d=!e/\(d=K->ll z a.b a.a f a.c=Q b.c):=by rw[g9]at c;cases d with|true=>obtain⟨i,g,rfl⟩:=b3.1 c;exact⟨Sz g,J,J,J,λ_=>g⟩|false=>cases c;exact⟨λ_ c=>c,J,J,J,nofun⟩
end
structure F5(g:c1)(i):Prop where
 f:g.l.b=.ofNat i
 c:Y (jr g)<=i
 b:∀k∈g.l.f,Y k.a=i
 a:0<Y g.l.c
 d:∀j∈g.l.c,qz (ad j.b)=K->∃h,j.c=.ofNat h/\h<Y g.l.c
 e:∀l∈g.l.e,∃h,l.b=.ofNat h/\h<Y g.l.c
section
variable{z:c1}{x:Nat}{y w:cd}
def wv(z:c1)(y:cd)(b:Nat):qf:=match(fs z y b).bind (rP z<|.ofNat b)with|Q a=>(a.b,a.a)|Z=>([],[])
structure F3(z)(y)(p)(j)where
 o:cd
 b:cd
 e:cd
 m:cd
 c:cd
 l:cd
 n:fs z y p=Q o
 g:rP z (.ofNat p) o=Q b
 h:yU z (.ofNat p) b=Q e
 i:hE z j (ad j.b) e=Q m
 k:iG z j (ad j.b) m=Q c
 d:g9 z j.c (qz<|ad j.b) (qw<|ad j.b) c=Q l
 a:fs z y (p+1)=Q l
def Sn(b:(fs z y<|Y z.l.c).isSome=K){a}(c:a<=Y z.l.c):∃e,fs z y a=Q e:=by cases d:fs z y a with|some f=>exists f|none=>have:=Nn d<|Y z.l.c-a;rw[show a+(Y z.l.c-a)=Y z.l.c by omega]at this;rw[this]at b;cases b
theorem yl{d c}(a:(fs z y<|Y z.l.c).isSome=K)(b:z.l.c[d]?=Q c):Nonempty (F3 z y d c):=by let h:=(bc.1 b).1;let⟨q,f⟩:=Sn a<|aaQ h;let⟨v,g⟩:=Sn a h;let e:=Nl f b;rw[g]at e;let⟨r,l,i⟩:=ay.1 e.symm;let⟨s,m,j⟩:=ay.1 i;let⟨t,n,k⟩:=ay.1 j;let⟨u,o,p⟩:=ay.1 k;exact⟨⟨q,r,s,t,u,v,f,l,m,n,o,p,g⟩⟩
def An{d b c}(a:yU z d b=Q c):c.b=b.b/\c.a=b.a/\(∀g∈b.c,g∈c.c)/\∀a∈z.l.e,a.c<=d->d<a.d->∃f e,ll z b.b [fa<|lL [a.a,eo]] a.b f=Q e/\∀h∈e,h∈c.c:=by obtain⟨j,i,rfl⟩:=b3.1 a;have:=Sq i;exact⟨J,J,this.1,this.2⟩
def F3.f{q p}(j:F3 z y q p):(∀r∈j.o.c,r∈j.b.c)/\(∀s∈j.b.c,s∈j.e.c)/\(∀t∈j.e.c,t∈j.c.c)/\∀u∈j.c.c,u∈j.l.c:=⟨(Gh (x:=λ_=>True) j.g).1,(An j.h).2.2.1,λv w=>by rw[(wq _ _ j.k).1];exact aew _ _ j.i v w,(uQ j.d).1⟩
def Sm(b:(fs z y<|Y z.l.c).isSome=K):∀{a f j k},f+a<=Y z.l.c->fs z y f=Q j->fs z y (f+a)=Q k->∀l∈j.c,l∈k.c|0,c,v,x,_,m,i,t,p=>by rw[aaN,m]at i;cases i;exact p|a+1,g,w,d,u,n,o,c,q=>by let⟨s,r⟩:=a1 (b:=z.l.c) (a:=g+a) L;let⟨e⟩:=yl b r;let h:=e.a;rw[show g+a+1=g+(a+1)by omega,o]at h;let d:=e.f;rw[cx h];exact d.2.2.2 c<|d.2.2.1 c<|d.2.1 c<|d.1 c<|Sm b L n e.n c q
def Dd(b:(fs z y<|Y z.l.c).isSome=K)(d:F5 z x)(c:Y y.b=x):∀{a k},a<=Y z.l.c->fs z y a=Q k->Y k.b=x|0,t,_,l=>by cases l;exact c|a+1,u,s,m=>by let⟨p,o⟩:=a1 (b:=z.l.c) (a:=a) L;let⟨e⟩:=yl b o;let h:=e.a;rw[m]at h;let r:=Dd b d c L e.n;(let q:Y e.b.b=x:=by let n:=(Gh (x:=λ_=>True) e.g).2.1;cases g:my z.l.f (.ofNat a)with|some i=>rw[(n i g).1];exact d.b i<|wP g|none=>let f:=e.g;rw[rP]at f;rw[g]at f;cases j:e.o.d with|false=>simp only[j,dE]at f;cases f|true=>simp only[j,b4]at f;rwa[<-cx f]);rwa[cx h,(uQ e.d).2.1,(wq _ _ e.k).2,LK _ _ e.i,(An e.h).1]
def Dp{b c}(a:F3 z y b c):wv z y b=(a.b.b,a.b.a):=by rw[wv];rw[a.n,b2,a.g]
def aet(c:(fs z y<|Y z.l.c).isSome=K){b a}(e:b<Y z.l.c)(d:my z.l.f (.ofNat b)=Q a):wv z y b=(a.a,a.b):=by let⟨h,g⟩:=a1 e;let⟨f⟩:=yl c g;rw[Dp f];have:=(Gh (x:=λ_=>True) f.g).2.1 a d;rw[this.1,this.2]
def Ti{b:W bA}(a:F5 z x)(c:rH z ⟨b,em z x,[],K⟩=Q w):(∀f∈b,f∈w.c)/\Ai z (λf=>f∈w.c) (wv z ⟨b,em z x,[],K⟩):=by
 have ha:Y (cd.mk b (em z x) [] K).b=x:=yP a.c;generalize hb:cd.mk b (em z x) [] K=y at c ha;let⟨p,hd,d⟩:=ay.1 c;have e:p=w/\w.d=N:=by cases v:p.d with|true=>rw[v]at d;cases d|false=>rw[v]at d;cases d;exists J
 obtain⟨rfl,hj⟩:=e;have k:(fs z y<|Y z.l.c).isSome=K:=by rw[hd];rfl
 have t:∀{e:Nat}{h:cd},e<=Y z.l.c->fs z y e=Q h->∀f∈h.c,f∈p.c:=λ{e h}g o=>Sm k (a:=Y z.l.c-e) L o (by rwa[show e+(Y z.l.c-e)=Y z.l.c by omega]);have hc:∀{e:Nat}{h:cd},e<=Y z.l.c->fs z y e=Q h->∀s∈z.l.f,Y h.b=Y s.a:=λg o s i=>(Dd k a ha g o).trans (a.b s i).symm;have hg:∀{l m:W a7}{q:Nat}{b j:W bA},Y l=x->q<Y z.l.c->ll z l m (.ofNat q) b=Q j->(∀f∈j,f∈p.c)->fZ (λf=>f∈p.c) z.i l m (wv z y q):=λ{l m q b j}u n he r=>by let⟨s,i,d⟩:=ay.1 he;rw[aet k n i];exact SA d r<|u.trans (a.b s<|wP i).symm
 have hf:∀{e:Nat}{h:cd},e<Y z.l.c->fs z y e=Q h->h.d=K->fZ (λf=>f∈p.c) z.i h.b h.a (wv z y e):=λ{e h}g o v=>by let⟨s,m⟩:=a1 g;let⟨d⟩:=yl k m;have r:=d.n;rw[o]at r;cases r;rw[Dp d];have l:=d.f;exact(Gh d.g).2.2 v (hc (aaQ g) o) λf i=>t g d.a f<|l.2.2.2 f<|l.2.2.1 f<|l.2.1 f i
 refine⟨λf i=>t (eL _) J f<|hb▸i,?_,λe s m=>?_,λe c g hc hh hi=>?_⟩;have o:=hf a.a J<|hb▸J;rw[a.f];rwa[<-hb]at o⊢;have g:=(bc.1 m).1;let⟨d⟩:=yl k m;have l:=d.f;have u:Y d.c.b=x:=by have:=Dd k a ha g d.a;rwa[(uQ d.d).2.1]at this
 refine⟨(d.c.b,d.c.a),⟨d.e.c,d.e.d,d.m,d.c.c,d.c.d,?_,d.k,λf i=>t (e:=e+1) g d.a f<|l.2.2.2 f i⟩,λi=>?_,λh=>?_⟩;rw[Dp d];have j:=An d.h;have p:=d.i;rwa[show d.e=⟨d.e.c,d.b.b,d.b.a,d.e.d⟩by rw[<-j.1,<-j.2.1]]at p;let⟨q,n,v⟩:=a.d s (bl m) i;rw[n];refine⟨v,hg u v (b:=d.c.c) (j:=d.l.c) ?_<|t (e:=e+1) g d.a⟩;have:=(uQ d.d).2.2.2.2 i;rwa[n]at this;have p:d.l.d=K:=by rw[(uQ d.d).2.2.2.1,h];rfl
 have he:e+1<Y z.l.c:=by rcases dy (e+1) (Y z.l.c)with hb|hb;exact hb;have r:=d.a;rw[show e+1=Y z.l.c by omega,hd]at r;rw[<-cx r,hj]at p;cases p
 exists he;have o:=hf he d.a p;rwa[(uQ d.d).2.1,(uQ d.d).2.2.1]at o;let⟨s,m⟩:=a1 g;let⟨d⟩:=yl k m;let⟨q,n,v⟩:=a.e c hc;let⟨b,j,h,q⟩:=(An d.h).2.2.2 c hc hh hi;have l:=d.f;have u:Y d.b.b=x:=by have:=Dd k a ha (a:=e+1) g d.a;rwa[(uQ d.d).2.1,(wq _ _ d.k).2,LK _ _ d.i,(An d.h).1]at this
 rw[Dp d,n];rw[n]at h;exact⟨v,hg u v h λf i=>t (e:=e+1) g d.a f<|l.2.2.2 f<|l.2.2.1 f<|q f i⟩
end
section
variable{x y w:Type}{z:x->y->Prop}
def bg.d:∀{j p},bg z j p->Y j=Y p|_,_,.b=>rfl|_,_,.a _ q=>b9 (·+1) q.d
def bg.h:∀{r s}{q:Nat}{p},bg z r s->s[q]?=Q p->∃j,r[q]?=Q j/\z j p|_,_,0,_,.a w _,t=>by cases t;exact⟨_,J,w⟩|_,_,y+1,_,.a _ x,u=>x.h u|_,_,j,_,.b,v=>by simp at v
def bg.c{j}(p:∀q r,z q r->j q r):∀{s t},bg z s t->bg j s t|_,_,.b=>.b|_,_,.a u v=>.a (p _ _ u) (v.c p)
def bg.e:∀{j q p r},bg z j q->bg z p r->bg z (j++p) (q++r)|_,_,_,_,.b,t=>t|_,_,_,_,.a s v,u=>.a s (v.e u)
def bg.k:∀{r s j},bg z j (r++s)->∃p q,j=p++q/\bg z p r/\bg z q s|[],_,w,t=>⟨[],w,J,.b,t⟩|p::r,s,_,.a u j=>by obtain⟨x,y,rfl,v,q⟩:=bg.k j;exists _::x,y,J,.a u v
def bg.g{q j p}(r:bg z p (q++[j])):∃t s,p=t++[s]/\bg z t q/\z s j:=by obtain⟨w,j,rfl,u,v⟩:=r.k;cases v with|a y x=>cases x;exists w,_,J,u
def bg.l{p j}(q:∀r s t,z r s->p s t->j r t):∀{u}{v:W y}{x:W w},bg z u v->bg p v x->bg j u x|_,_,_,.b,.b=>.b|_,_,_,.a j r,.a p s=>.a (q _ _ _ j p) (r.l q s)
def bg.i:∀{r s j p q},bg z r s->z p q->bg z (r.set j p) (s.set j q)|_,_,_,_,_,.b,_=>.b|_,_,0,_,_,.a _ v,t=>.a t v|_,_,j+1,_,_,.a x w,u=>.a x (w.i u)
def bg.o{j}:∀{r p},z p j->bg z (e8 r p) (e8 r j)|0,_,_=>.b|s+1,_,q=>.a q (bg.o q)
end
structure bu(n:ag)(v:ih)(j:a7):Prop where
 i:j.a=1->∃r,v=.b r
 k:j.a=2->v=.a\/∃q,v=.d q/\q<Y n.f
 e:j.a=3->v=.a\/∃p o,v=.c p/\n.g[p]?=Q o/\dC n.a o.a j.b=K
 h:j.a=5->v=.a
def bu.b{n j}:bu n (.b j) cN:=⟨λ_=>⟨j,J⟩,nofun,nofun,nofun⟩
def bu.c{o j}(n:j.a≠1):bu o .a j:=⟨λp=>aE p n,λ_=>.inl J,λ_=>.inl J,λ_=>rfl⟩
def bu.f{n j}(o:j<Y n.f):bu n (.d j) mh:=⟨nofun,λ_=>.inr ⟨j,J,o⟩,nofun,nofun⟩
def bu.d{o n j p}(q:o.g[n]?=Q j)(r:dC o.a j.a p=K):bu o (.c n) (fa p):=⟨nofun,nofun,λ_=>.inr ⟨n,j,J,q,r⟩,nofun⟩
def bu.l{o v n}(j:n.a=4):bu o v n:=⟨λp=>aE (j.symm.trans p) A,λq=>aE (j.symm.trans q) A,λr=>aE (j.symm.trans r) A,λs=>aE (j.symm.trans s) A⟩
def bu.g{n v}(j:bu n v cN):∃o,v=.b o:=j.i J
structure lz(h i:dg):Prop where
 e:i.d=h.d
 a:i.b=h.b
 c:i.c=h.c
 g:i.f=h.f
 f:i.h=h.h
 d:i.e=h.e
def bH(a:ag):Nat:=Y (a.m.filter λc=>(b5 a.d c.1).isNone)+Y (a.a.filter λb=>cj<|b.g=.c)
structure fj(j k:ag):Prop where
 d:∀(n:Nat)l,j.a[n]?=Q l->∃m,k.a[n]?=Q m/\lz l m
 g:∀(o:Nat)l,j.g[o]?=Q l->∃m,k.g[o]?=Q m/\m.a=l.a
 f:Y j.f<=Y k.f
 c:∀p n,b5 j.d p=Q (.b n)->b5 k.d p=Q (.b n)
 i:∀q∈j.h,q∈k.h
 e:k.m=j.m
structure cq(p q):Prop extends fj p q where
 l:bH q<=bH p
 m:q.e=p.e
def lz.b(h):lz h h:=Kc
def cq.o(a):cq a a:=⟨⟨λ_ b d=>⟨b,d,lz.b b⟩,λ_ c e=>⟨c,e,J⟩,bd _,λ_ _ f=>f,λ_ g=>g,J⟩,bd _,J⟩
def fj.b{l m n}(j:fj l m)(k:fj m n):fj l n:=⟨λq v p=>by let⟨x,r,o⟩:=j.d q v p;let⟨z,s,p⟩:=k.d q x r;exact⟨z,s,p.e.trans o.e,p.a.trans o.a,p.c.trans o.c,p.g.trans o.g,p.f.trans o.f,p.d.trans o.d⟩,λt w o=>by let⟨y,q,m⟩:=j.g t w o;let⟨l,v,n⟩:=k.g t y q;exact⟨l,v,n.trans m⟩,df j.f k.f,λu r w=>k.c u r<|j.c u r w,λs t=>k.i s<|j.i s t,k.e.trans j.e⟩
def cq.n{c d e}(a:cq c d)(b:cq d e):cq c e:=⟨a.tofj.b b.tofj,df b.l a.l,b.m.trans a.m⟩
section
variable{z y:ag}
def fj.a(k:fj z y){j}(l:j<Y z.a):bY y.a j=bY z.a j/\bW y.a j=bW z.a j/\ax y.a j=ax z.a j/\c5 y.a j=c5 z.a j:=by let⟨o,n⟩:=a1 l;let⟨q,p,m⟩:=k.d j o n;unfold bY bW ax c5;rw[n,p];exact⟨m.a,m.e,m.c,m.g⟩
structure el(j:List dg):Prop where
 c:∀(h:Nat)g,j[h]?=Q g->∃o,g.b=h::o/\((o=[]/\h=0)\/∃k i,j[k]?=Q i/\k<h/\o=i.b)
 b:∀l,l<17->∃g i,j[l]?=Q g/\e0[l]?=Q i/\g.d=i.d/\g.b=i.b/\g.c=i.c/\g.f=i.f/\g.h=i.h/\g.e=i.e
 d:∀(h:Nat)g,17<=h->j[h]?=Q g->g.d=g.c.d/\gv g.c/\∃k,k∈g.b/\bW j k=g.c.b
 f:∀(h:Nat)g,j[h]?=Q g->∀(l:Nat)m,g.c.c[l]?=Q m->∃n,g.e[l]?=Q n/\(m.a=K->g.h[n]?=Q m.c)/\(m.a=N->g.f[n]?=Q m.c)
 e:∀(h:Nat)g,j[h]?=Q g->∀k∈g.b,∃p,g.f=c5 j k++p
def fv{c b a}(d:c[b]?=Q a):bY c b=a.b:=by rw[bY];rw[d]
def Te{a}(b:el a):∀{e g},g∈bY a e->e<Y a/\g<Y a/\∃s,bY a e=s++bY a g:=by intro m;induction m using vO with|_ f r=>intro w d;cases c:a[f]? with|none=>rw[bY]at d;rw[c]at d;cases d|some l=>let h:=(bc.1 c).1;let⟨x,k,n⟩:=b.c f l c;rw[fv c,k]at d;rcases cB.1 d with rfl|i;exists h,h,[];rcases n with⟨rfl,_⟩|⟨u,v,j,p,rfl⟩;cases i;rw[<-fv j]at i;let⟨_,o,t,q⟩:=r u p i;exists h,o,f::t;rw[fv c,k,<-fv j,q];rfl
def Tc{a}(b:el a):∀{c},c<Y a->0∈bY a c:=by intro g;induction g using vO with|_ h m=>intro j;let⟨f,d⟩:=a1 j;let⟨p,l,i⟩:=b.c h f d;rw[fv d,l];rcases i with⟨_,rfl⟩|⟨n,o,e,k,rfl⟩;exact .head _;rw[<-fv e];exact .tail _<|m n k (bc.1 e).1
def el.a{i}(k:el i)(j:Nat)(g:dg)(h:i[j]?=Q g):j∈g.b/\0∈g.b/\∀l∈g.b,l<Y i/\∀n∈bY i l,n∈g.b:=by let p:=(bc.1 h).1;refine⟨?_,fv h▸Tc k p,λt m=>?_⟩;let⟨w,s,_⟩:=k.c j g h;rw[s];exact .head _;rw[<-fv h]at m⊢;let⟨_,o,v,r⟩:=Te k m;exact⟨o,λu q=>r▸bo _ q⟩
def jZ{b c d}(e:el b)(a:d∈bY b c):c<Y b/\d<Y b:=by rw[bY]at a;cases f:b[c]? with|none=>rw[f]at a;cases a|some g=>rw[f]at a;exact⟨(bc.1 f).1,((e.a c g f).2.2 d a).1⟩
def fj.below(k:fj z y)(n:el z.a){j l}(m:dC z.a j l=K):dC y.a j l=K:=by let⟨p,o,s⟩:=fO.1 m;let⟨q,r⟩:=jZ n o;refine fO.2 ⟨p,(k.a q).1▸o,?_⟩;rwa[(k.a r).2.1]
def bu.a(n:fj z y)(p:el z.a){v o}(j:bu z v o):bu y v o:=⟨j.i,λt=>(j.k t).imp id λ⟨q,w,o⟩=>⟨q,w,mN o n.f⟩,λu=>(j.e u).imp id λ⟨q,r,x,t,w⟩=>by let⟨s,u,o⟩:=n.g q r t;exact⟨q,s,x,u,o▸n.below p w⟩,j.h⟩
def Db{b}(g:el b){c d e}(a:d∈bY b c)(f:dC b d e=K):dC b c e=K:=by let⟨i,k,l⟩:=fO.1 f;refine fO.2 ⟨i,?_,l⟩;unfold bY at a⊢;cases h:b[c]? with|none=>rw[h]at a;cases a|some j=>rw[h]at a;exact((g.a c j h).2.2 d a).2 i k
def RX{b}(d:el b){a}(c:a<Y b):dC b a (bW b a)=K:=by let⟨f,e⟩:=a1 c;refine fO.2 ⟨a,?_,iy J⟩;rw[bY];rw[e];exact(d.a a f e).1
def dF(z:ag)(a:Nat):Prop:=a<Y z.a/\∀b∈bY z.a a,b5 z.d (bW z.a b)=Q (.b b)
def dF.a(d:fj z y)(g:el z.a){e}(f:dF z e):dF y e:=by let⟨i,k⟩:=a1 f.1;let⟨m,l,_⟩:=d.d e i k;refine⟨(bc.1 l).1,λj h=>?_⟩;rw[(d.a f.1).1]at h;rw[(d.a (jZ g h).2).2.1];exact d.c _ _<|f.2 j h
def dF.b{e f}(g:el z.a)(h:dF z e)(d:f∈bY z.a e):dF z f:=by refine⟨(jZ g d).2,λj l=>h.2 j ?_⟩;rw[bY]at d⊢;cases i:z.a[e]? with|none=>rw[i]at d;cases d|some k=>rw[i]at d;exact((g.a e k i).2.2 f d).2 j l
def dF.c(i:el z.a){d e}(h:dF z e)(f:dF z d)(g:dC z.a e (bW z.a d)=K):d∈bY z.a e:=by let⟨o,m,p⟩:=fO.1 g;let j:=h.2 o m;rw[ej p]at j;let⟨n,l⟩:=a1 f.1;let k:=f.2 d (by unfold bY;rw[l];exact(i.a d n l).1);rw[j]at k;cases k;exact m
end
def RI(a:ag):Prop:=∀c∈a.h,∀b,gu a c.b=Q b->dC a.a b c.a=K
def pz(a:ag)(b:Nat):Prop:=dF a b/\∃e,il (ax a.a b)=Q e/\∀c∈e,c∈a.h\/∃d,gu a c.b=Q d/\dC a.a d c.a=K
def qe(a:ac):Prop:=∃b,b<14/\a=ds b
def qg(a:ag)(b:c3):dx->Prop|.a n=>qe n|.b h=>dF a h/\bW a.a h=b.a.b|.c e j=>∃(c k:Nat)(f:i5),dF a c/\bW a.a c=b.a.b/\e∈bY a.a c/\(ax a.a e).c[k]?=Q f/\f.c=b.a.d/\((a.a[e]?).bind λl=>l.e[k]?)=Q j/\f.a=(ad b.b==18||ad b.b==19)|.d i m=>∃(d:Nat)(g:cK),dF a d/\bW a.a d=b.a.b/\i∈bY a.a d/\(ax a.a i).a[m]?=Q g/\fM g (qh b.a)=K/\g.g=(ad b.b==21)
def RL(a:Nat):dx->Prop|.a _=>True|.b _=>eM a=Q 0|.c _ _=>eM a=Q 1\/eM a=Q 2|.d _ _=>eM a=Q 3\/eM a=Q 4
def tr(c:ag)(a:c3)(b:dx):Prop:=qg c a b/\RL (ad a.b) b
def yg(a:ag)(b:C6):Prop:=dF a b.a/\(∀c∈bY a.a b.a,pz a c)/\bg (bu a) b.b (c5 a.a b.a)
structure bj(j:ag):Prop where
 a:el j.a
 d:∀w p,b5 j.d w=Q (.b p)->dF j p/\bW j.a p=w
 na:∀w t,b5 j.d w=Q t->(∃p,t=.b p)\/∃ha,t=.a ha/\qe ha
 f:∀r,r<17->b5 j.d (bW j.a r)=Q (.b r)
 o:RI j
 n:∀(p:Nat)q,j.a[p]?=Q q->q.g=.b->∀hc∈bY j.a p,pz j hc
 k:∀(p:Nat)q,j.a[p]?=Q q->bg (bu j) q.a q.h
 e:∀(v:Nat)x,j.g[v]?=Q x->yg j x
 h:∀(p r z:Nat)q u t,j.a[p]?=Q q->q.i[r]?=Q u->u[z]?=Q (Q t)->∃s y,q.c.a[r]?=Q s/\s.c[z]?=Q y/\tr j y t
 l:∀(p r:Nat)q s,j.a[p]?=Q q->q.c.a[r]?=Q s->∃u,q.i[r]?=Q u/\Y u=Y s.c
 nb:∀(p:Nat),dF j p->17<=p->∀s∈(ax j.a p).a,∀hb∈(bY j.a p).tail,∀v∈(ax j.a hb).a,fM v s=K->v.g=s.g
section
variable{z y:ag}
def uS{b a}:gu z b=Q a↔b5 z.d b=Q (.b a):=by
 rw[gu];constructor;intro c;split at c;next d=>cases c;exact d
 cases c;intro e;rw[e]
def pz.a(b:fj z y)(c:el z.a){d}(e:pz z d):pz y d:=by let⟨g,i,j,k⟩:=e;refine⟨g.a b c,i,by rw[(b.a g.1).2.2.1];exact j,λf n=>(k f n).imp (b.i f) λ⟨h,l,m⟩=>⟨h,uS.2<|b.c _ _<|uS.1 l,b.below c m⟩⟩
def adp:∀a,a<17->∀f∈pU (hL[a]?.getD bU),∃j∈(e0[a]?.map (·.b)).getD [],hL[j]?.getD bU=f:=have c:∀b∈fX 17,∀g∈pU (hL[b]?.getD bU),∃j∈(e0[b]?.map (·.b)).getD [],hL[j]?.getD bU=g:=A;λe d=>c e<|pr.2 d
def bj.c(q:bj z){j}(p:j<17):bW z.a j=hL[j]?.getD bU/\bY z.a j=(e0[j]?.map (·.b)).getD []:=by
 let⟨x,t,s,r,u,v,_⟩:=q.a.b j p;let w:t.d=hL[j]?.getD bU:=by rw[e0]at r;rw[cv,sd p]at r;cases r;rfl
 constructor;rw[bW];rw[s,<-w,<-u];rw[fv s,r,v];rfl
def adj{b}(a:(gG b).isSome=K):∃e,e<17/\b=hL[e]?.getD bU:=by
 unfold gG at a;split at a;next f=>exact⟨0,L,f⟩
 split at a;next g=>exact⟨1,L,g⟩
 split at a;next h=>exact⟨2,L,h⟩
 split at a;next i=>let⟨l,k,j⟩:=fO.1 i;let⟨c,d⟩:=iI.1 k;let m:c<14:=(bc.1 d).1;refine⟨c+3,L,?_⟩;rw[ej j];show l=(([gW,eo,jB]++qc)[c+3]?).getD bU;rw[md az];simp[d]
 cases a
def bj.nc(p:bj z){q r}{v:W bA}{t u}(y:dF z q)(hb:17<=q)(ha:∀hd∈v,hd∈z.h\/∃r,gu z hd.b=Q r/\dC z.a r hd.a=K)(s:Ah (λhd=>hd∈v) (ax z.a q) t u)(x:dF z r)(w:dC z.a r t=K):dC z.a r u=K:=by
 let⟨hi,hf,hn⟩:=fO.1 w;have hn:=ej hn;have hg:=x.2 hi hf;rw[hn]at hg;rcases s with rfl|rfl|⟨hm,he⟩|⟨hm,he⟩|s;exact w;refine Db p.a (Tc p.a x.1) ?_;let⟨hl,_,hc,_⟩:=p.a.b 0 L;have:=RX p.a (bc.1 hc).1;rw[(p.c L).1]at this;exact this;let⟨j,hk,ho⟩:=adj hm;have hp:=p.c hk;have hq:=p.f j hk;rw[hp.1,<-ho,hg]at hq;cases hq;refine Db p.a hf ?_;unfold Ff at he;rw[cQ]at he;let⟨h3,hs,h0⟩:=fO.1 he.2;rw[ho]at hs;let⟨hh,hr,hx⟩:=adp hi hk h3 hs;refine fO.2 ⟨hh,by rw[hp.2];exact hr,?_⟩;have hw:hh<17:=by(have hu:∀q∈fX 17,∀hh∈(e0[q]?.map (·.b)).getD [],hh<17:=A);exact hu hi (pr.2 hk) hh hr
 rw[(p.c hw).1,hx];exact h0;let⟨hl,hc⟩:=a1 y.1;let⟨h1,_,h2,hy,hz⟩:=p.a.d q hl hb hc;have hv:bW z.a q=t:=by rw[hm];unfold bW ax;rw[hc];exact h1
 have hj:=y.2 q (by rw[fv hc];exact(p.a.a q hl hc).1);rw[hv,hg]at hj;cases hj;refine Db p.a hf<|fO.2 ⟨h2,by rw[fv hc];exact hy,iy ?_⟩;rw[hz,he];unfold ax;rw[hc];rcases ha _ s with s|⟨h4,hj,ht⟩;exact Db p.a hf<|p.o _ s hi<|uS.2 hg;have:=uS.1 hj;rw[hg]at this;cases this;exact Db p.a hf ht
def bu.m(r:bj z){n}{q:W bA}{v o p}(u:dF z n)(w:17<=n)(t:∀x∈q,x∈z.h\/∃y,gu z x.b=Q y/\dC z.a y x.a=K)(j:bu z v o)(s:kS (λx=>x∈q) (ax z.a n) o p):bu z v p:=by rcases s with rfl|⟨n,x⟩|⟨n,x,hb⟩;exact j;rw[j.h n];exact bu.c (by rcases x with x|x<;>rw[x]<;>decide);refine⟨λy=>aE (x.symm.trans y) A,λy=>aE (x.symm.trans y) A,λ_=>(j.e n).imp id λ⟨q,o,s,p,ha⟩=>⟨q,o,s,p,r.nc u w t hb (r.e q o p).1 ha⟩,λy=>aE (x.symm.trans y) A⟩
end
section
variable{z y:wl}{x:dM}
def Ah.a(d:∀g,z g->y g){b c}(e:Ah z x b c):Ah y x b c:=by rcases e with f|f|f|f|f;exact .inl f;exact .inr<|.inl f;exact .inr<|.inr<|.inl f;exact .inr<|.inr<|.inr<|.inl f;exact .inr<|.inr<|.inr<|.inr<|d _ f
def kS.a(e:∀g,z g->y g){c d}(f:kS z x c d):kS y x c d:=f.imp id<|Or.imp id λ⟨h,i,j⟩=>⟨h,i,j.a e⟩
def fZ.a(f:∀j,z j->y j){h i e}(g:fZ z x h i e):fZ y x h i e:=⟨g.d.c λ_ _=>kS.a f,g.c.c λ_ _=>Or.imp id<|kS.a f⟩
def Ai.d{h g}(e:∀p,z p->y p)(f:Ai h z g):Ai h y g:=⟨f.a.a e,λn l k=>by let⟨o,⟨w,u,m,x,v,g,h,i⟩,r,s⟩:=f.c n l k;exact⟨o,⟨w,u,m,x,v,g,h,λq j=>e q<|i q j⟩,λl=>⟨(r l).1,(r l).2.a e⟩,λm=>⟨(s m).1,(s m).2.a e⟩⟩,λt n i j k o=>⟨(f.b t n i j k o).1,(f.b t n i j k o).2.a e⟩⟩
end
def Gg{c j a}(b:la a):F5 (dj c j a) (ad a.b):=by let n:=NP b;let f:=tR b;let⟨_,_,_,_,_,h,p,_⟩:=id b;let l:=dK.1 h.1.1;simp only[dw]at l;refine⟨f.1,by rw[Jk];exact f.2.2,λk r=>?_,(show 0<Y a.c by omega),λs q o=>Wv (h.2 s q) o,λd m=>?_⟩;let g:=(n.2.2 k r).1;rw[f.1]at g;exact(Cz g).symm;let e:=(p.2 d m).2.1;rw[cQ]at e;let t:=hV e.1;let i:=dK.1 e.2;simp only[dw]at i;exact⟨ad d.b,by simp only[dw];omega,(show ad d.b<Y a.c by omega)⟩
def Ld(a:dM):W bA:=(il a).getD []
def iL(a:dM):wl:=λb=>b∈Ld a
def fb(a:dM)(j:Nat)(b:cK):Nat->qf:=wv (dj a j b) ⟨(jj a j).getD [],em (dj a j b)<|ad b.b,[],K⟩
def R6{a}(c:∀t∈a.a,la t):∀{b j e f},jj a j=Q e->jj a (j+b)=Q f->∀k∈e,k∈f|0,j,v,x,l,h,z,p=>by rw[aaN,l]at h;cases h;exact p|b+1,j,w,i,m,n,g,q=>by let⟨y,o,d⟩:=ay.1<|show(jj a<|j+b).bind _=Q i from n;let⟨u,s,d⟩:=ay.1 d;obtain⟨a,r,rfl⟩:=b3.1 d;exact(Ti (Gg<|c u<|bl s) r).1 g<|R6 c m o g q
def adu{a f j b}(e:∀b∈a.a,la b)(c:il a=Q f)(d:a.a[j]?=Q b):Ai (dj a j b) (iL a) (fb a j b):=by
 let x:=(bc.1 d).1;let n:∀o,o<=Y a.a->∃p,jj a o=Q p:=λg h=>by cases v:jj a g with|some q=>exists q|none=>let i:=Hg v<|Y a.a-g;rw[show g+(Y a.a-g)=Y a.a by omega]at i;rw[il]at c;rw[i]at c;cases c
 let⟨f,k⟩:=n j L;let⟨r,l⟩:=n (j+1) x;let⟨g,h,t⟩:=ay.1<|show(jj a j).bind _=Q r from l;rw[k]at h;cases h;let⟨n,m,u⟩:=ay.1 t;rw[d]at m;cases m;obtain⟨i,y,rfl⟩:=b3.1 u;let z:=(Ti (Gg<|e b<|bl d) y).2;rw[fb];rw[k];refine z.d λs w=>?_;rw[iL,Ld];rw[c];refine R6 e (b:=Y a.a-(j+1)) l ?_ s w;rwa[show j+1+(Y a.a-(j+1))=Y a.a by omega]
def aer{a h j d b}(e:F5 (dj a j b) (ad b.b))(c:il a=Q h)(f:a.a[j]?=Q b)(i:∀b∈a.a,la b)(g:d<Y b.c):Y (fb a j b d).1=ad b.b:=by
 let h:=(bc.1 f).1;let i:∀q,q<=Y a.a->∃r,jj a q=Q r:=λl k=>by cases x:jj a l with|some s=>exists s|none=>let n:=Hg x<|Y a.a-l;rw[show l+(Y a.a-l)=Y a.a by omega]at n;rw[il]at c;rw[n]at c;cases c
 let⟨t,y⟩:=i (j+1) h;let⟨m,u,v⟩:=ay.1<|show(jj a j).bind _=Q t from y;let⟨p,o,w⟩:=ay.1 v;rw[f]at o;cases o;obtain⟨n,c,rfl⟩:=b3.1 w;rw[fb];rw[u];let⟨o,f,_⟩:=ay.1 c;let p:(fs (dj a j b) ⟨m,em (dj a j b)<|ad b.b,[],K⟩<|Y (dj a j b).l.c).isSome=K:=by rw[f];rfl
 let⟨l,z⟩:=a1 g;let⟨k⟩:=yl p z;show Y (wv (dj a j b) ⟨m,_,[],K⟩ d).1=_;rw[Dp k];have:=Dd p e (yP e.c) g k.a;rwa[(uQ k.d).2.1,(wq _ _ k.k).2,LK _ _ k.i,(An k.h).1]at this
section
variable{z w:ag}{y:bV}{x:cK}
structure eZ(z:ag)(y:bV)(x:cK):Prop where
 b:(ax z.a y.g).a[y.h]?=Q x
 d:pz z y.g
 g:∀j,y.b=Q j->j<Y z.a/\x.a.a=0
def kR(z:ag)(y:bV)(x:cK)(a:Nat):Prop:=a<Y x.c/\bg (bu z) y.f (fb (ax z.a y.g) y.h x a).1/\bg (bu z) y.a (fb (ax z.a y.g) y.h x a).2
def uI(z:ag)(y:bV)(x:cK):Prop:=y.c<Y x.c/\bg (bu z) y.f (fb (ax z.a y.g) y.h x y.c).1
def Ae(z:ag)(y:bV)(x:cK)(a:a7):Prop:=y.d<Y x.c/\∃c b,bg (bu z) y.f c/\bg (bu z) y.a b/\fZ (iL<|ax z.a y.g) (ax z.a y.g) c (if a.a=0 then b else b++[a]) (fb (ax z.a y.g) y.h x y.d)
def fh(z:ag):W bV->a7->Prop|[],a=>a.a=0|y::c,b=>∃x,eZ z y x/\y.e=Z/\uI z y x/\Ae z y x b/\fh z c x.a
def sm(z:ag)(a:Nat):Prop:=∃b,z.g[a]?=Q b/\dC z.a b.a eo=K
def jb(z:ag):W bV->Prop|[]=>True|y::b=>∃x,eZ z y x/\kR z y x y.d/\fh z b x.a/\∀a,y.e=Q a->sm z a
def wm(z:ag):W bV->Prop|[]=>True|y::a=>∃x,eZ z y x/\y.e=Z/\uI z y x/\fh z a x.a
def eZ.c(j:eZ z y x):y.g<Y z.a:=j.d.1.1
def Gb(c:bj z){b x}(a:x∈(ax z.a b).a):17<=b:=by rcases dy b 17 with d|d;let⟨h,i,g,e,_,_,f,_⟩:=c.a.b b d;rw[ax]at a;rw[g]at a;simp only at a;rw[e0]at e;rw[cv,sd d]at e;cases e;rw[f]at a;cases a;exact d
def wn(b:bj z){a}:∀x∈(ax z.a a).a,la x:=λx c=>by let g:=Gb b c;rw[ax]at c;cases d:z.a[a]? with|none=>rw[d]at c;cases c|some f=>rw[d]at c;let h:=(b.a.d a f g d).2.1;let⟨j,e⟩:=iI.1 c;exact(h.2.2.2.2 j (bc.1 e).1 x e).1
def eZ.i(k:bj z)(j:eZ z y x):Ai (dj (ax z.a y.g) y.h x) (iL<|ax z.a y.g) (fb (ax z.a y.g) y.h x):=let⟨_,m,l,_⟩:=j.d;adu (wn k) l j.b
def eZ.h(k:bj z)(j:eZ z y x):la x:=wn k x<|bl j.b
def eZ.e(m:bj z)(l:eZ z y x){v j k}(n:bu z v j)(o:kS (iL<|ax z.a y.g) (ax z.a y.g) j k):bu z v k:=by
 let⟨t,p,r,s⟩:=l.d;refine n.m m t (Gb m<|bl l.b) s ?_;have:iL (ax z.a y.g)=λq=>q∈p:=by unfold iL Ld;rw[r];rfl
 rwa[<-this]
def eZ.f(l:bj z)(k:eZ z y x){n q j o p}(r:bg (bu z) o n)(s:bg (bu z) p q)(m:fZ (iL<|ax z.a y.g) (ax z.a y.g) n q j):bg (bu z) o j.1/\bg (bu z) p j.2:=⟨r.l (λ_ _ _ j u=>u.elim (λt=>bu.l t) λv=>k.e l j v) m.c,bg.l (z:=bu z) (j:=bu z) (λ_ _ _ n w=>eZ.e l k n w) s m.d⟩
def eZ.a(k:fj z w)(l:el z.a)(j:eZ z y x):eZ w y x:=⟨by rw[(k.a j.c).2.2.1];exact j.b,j.d.a k l,λm n=>by let⟨o,p⟩:=a1 (j.g m n).1;let⟨r,q,_⟩:=k.d m o p;exact⟨(bc.1 q).1,(j.g m n).2⟩⟩
def kR.a(b:fj z w)(d:el z.a)(f:y.g<Y z.a){e}(c:kR z y x e):kR w y x e:=by rw[kR];rw[(b.a f).2.2.1];exact⟨c.1,c.2.1.c λ_ _=>bu.a b d,c.2.2.c λ_ _=>bu.a b d⟩
def uI.a(b:fj z w)(e:el z.a)(d:y.g<Y z.a)(c:uI z y x):uI w y x:=by rw[uI];rw[(b.a d).2.2.1];exact⟨c.1,c.2.c λ_ _=>bu.a b e⟩
def Ae.a(b:fj z w)(d:el z.a)(f:y.g<Y z.a){c}(e:Ae z y x c):Ae w y x c:=by rw[Ae];rw[(b.a f).2.2.1];let⟨g,j,k,h,i,l⟩:=e;exists g,j,k,h.c λ_ _=>bu.a b d,i.c λ_ _=>bu.a b d
def fh.a(b:fj z w)(c:el z.a):∀{f e},fh z f e->fh w f e|[],_,g=>g|_::_,_,⟨x,d,h,i,j,k⟩=>⟨x,d.a b c,h,i.a b c d.c,j.a b c d.c,fh.a b c k⟩
def sm.a(c:fj z w)(e:el z.a){b}(d:sm z b):sm w b:=let⟨f,h,i⟩:=d;let⟨g,j,k⟩:=c.g b f h;⟨g,j,by rw[k];exact c.below e i⟩
def jb.a(b:fj z w)(c:el z.a):∀{e},jb z e->jb w e|[],_=>C|_::_,⟨x,d,f,g,h⟩=>⟨x,d.a b c,f.a b c d.c,fh.a b c g,λj i=>(h j i).a b c⟩
def wm.a(b:fj z w)(c:el z.a):∀{e},wm z e->wm w e|[],_=>C|_::_,⟨x,d,f,g,h⟩=>⟨x,d.a b c,f,g.a b c d.c,fh.a b c h⟩
end
section
variable{z y:ag}
def fj.h(n:fj z y){k l m:Nat}(o:k<Y z.a)(j:((z.a[k]?).bind λj=>j.e[l]?)=Q m):((y.a[k]?).bind λj=>j.e[l]?)=Q m:=by let⟨q,p⟩:=a1 o;let⟨r,t,s⟩:=n.d k q p;rw[p]at j;rw[t];show r.e[l]?=_;rw[s.d];exact j
def qg.a(b:fj z y)(c:el z.a){d}:∀{k},qg z d k->qg y d k|.a _,n=>n|.b f,e=>⟨e.1.a b c,by rw[(b.a e.1.1).2.1];exact e.2⟩|.c g j,⟨l,d,o,f,p,h,r,t,v,x⟩=>⟨l,d,o,f.a b c,by rw[(b.a f.1).2.1];exact p,by rw[(b.a f.1).1];exact h,by rw[(b.a (jZ c h).2).2.2.1];exact r,t,b.h (jZ c h).2 v,x⟩|.d h k,⟨m,e,g,q,i,s,u,w⟩=>⟨m,e,g.a b c,by rw[(b.a g.1).2.1];exact q,by rw[(b.a g.1).1];exact i,by rw[(b.a (jZ c i).2).2.2.1];exact s,u,w⟩
def tr.a(e:fj z y)(f:el z.a){c d}(b:tr z c d):tr y c d:=⟨b.1.a e f,b.2⟩
def yg.a(b:fj z y)(d:el z.a){e}(c:yg z e):yg y e:=⟨c.1.a b d,λg f=>by rw[(b.a c.1.1).1]at f;exact(c.2.1 g f).a b d,by rw[(b.a c.1.1).2.2.2];exact c.2.2.c λ_ _=>bu.a b d⟩
def bj.i(p:bj z)(q:fj z y)(j:y.a=z.a)(r:y.d=z.d)(s:RI y)(t:∀(hg:Nat)u,y.g[hg]?=Q u->yg y u):bj y:=by have ha:=p.a;refine⟨j▸ha,λhh u w=>?_,λhh hi w=>p.na hh hi<|r▸w,λhb ho=>?_,s,λu x v hf w hc=>?_,λu x v=>?_,t,λu hb hs x hr hi v hp hq=>?_,λu hb x s v t=>p.l u hb x s (j▸v) t,λu hl hn s t hm hj hg hk hf=>?_⟩;rw[r]at w;let⟨hd,he⟩:=p.d hh u w;exact⟨hd.a q ha,j▸he⟩;rw[r,j];exact p.f hb ho;rw[j]at v hc;exact(p.n u x v hf w hc).a q ha;rw[j]at v;exact(p.k u x v).c λ_ _=>bu.a q ha;rw[j]at v;let⟨s,ho,hd,he,hh⟩:=p.h u hb hs x hr hi v hp hq;exact⟨s,ho,hd,he,hh.a q ha⟩;rw[j]at t hj hk;refine p.nb u ⟨j▸hl.1,λw hc=>?_⟩ hn s t hm hj hg hk hf;have:=hl.2 w<|j▸hc;rwa[r,j]at this
def bj.g(j:bj z)(r:fj z y)(p:y.a=z.a)(q:y.d=z.d)(s:y.h=z.h)(t:∀(u:Nat)v,y.g[u]?=Q v->yg y v):bj y:=by refine j.i r p q (λu x v w=>?_) t;rw[s]at x;rw[show gu y u.b=gu z u.b by unfold gu;rw[q]]at w;rw[p];exact j.o u x v w
def bj.b(j:bj z)(p:y.a=z.a)(q:y.d=z.d)(s:y.h=z.h)(t:y.g=z.g)(v:Y y.f=Y z.f)(r:y.m=z.m:=by rfl)(u:y.e=z.e:=by rfl):bj y/\cq z y:=have w:cq z y:=⟨⟨λha x hb=>⟨x,by rw[p];exact hb,lz.b x⟩,λhd ha hc=>⟨ha,by rw[t];exact hc,J⟩,by rw[v];exact bd _,λhd hb x=>by rw[q];exact x,λha v=>by rw[s];exact v,r⟩,by unfold bH;rw[q,p,r];exact bd _,u⟩;⟨j.g w.tofj p q s λv r u=>(j.e v r (by rw[<-t];exact u)).a w.tofj j.a,w⟩
def F9(b:bj z){a}(c:a<17):dF z a/\pz z a:=by
 let⟨h,i,g,d,j,k,f,_⟩:=b.a.b a c;let e:=(b.d _ a<|b.f a c).1;refine⟨e,e,[],?_,nofun⟩;have:ax z.a a=⟨bU,bU,[],[]⟩:=by rw[ax];rw[g];rw[e0]at d;rw[cv,sd c]at d;cases d;exact f
 rw[this];rfl
def adn(c:bj z){a}(b:a<17):c5 z.a a=[]:=by let⟨g,h,f,d,_,_,_,e,_⟩:=c.a.b a b;rw[c5];rw[f];rw[e0]at d;rw[cv,sd b]at d;cases d;exact e
def ads(e:bj z){a b}(d:a<17)(c:b∈bY z.a a):b<17:=by
 rw[(e.c d).2]at c;let f:∀a∈fX 17,∀g∈(e0[a]?.map (·.b)).getD [],g<17:=A
 exact f a (pr.2 d) b c
def RO(b:bj z){c}(a:y={z with g:=z.g++[c]})(d:cq z y->yg y c):bj y/\cq z y:=by
 let f:cq z y:=by subst a;refine⟨⟨λr j p=>⟨j,p,lz.b j⟩,λv m q=>⟨m,?_,J⟩,bd _,λw s n=>n,λt o=>o,J⟩,bd _,J⟩;rwa[gh (bc.1 q).1]
 refine⟨b.g f.tofj (a▸J) (a▸J) (a▸J) λg k h=>?_,f⟩;rw[a]at h;rcases dy g (Y z.g)with i|i;have:z.g[g]?=Q k:=h▸(gh i).symm;exact(b.e g k this).a f.tofj b.a;let e:=h;rw[md i]at e;cases l:g-Y z.g with|zero=>rw[l]at e;cases e;exact d f|succ u=>rw[l]at e;cases e
def adA(a:bj z){b}(c:qe b):∃e,3<=e/\e<17/\gu z b=Q e:=by
 obtain⟨d,g,rfl⟩:=c;refine⟨d+3,L,L,uS.2 ?_⟩;let f:=a.f (d+3) L;rw[(a.c L).1]at f;have:hL[d+3]?.getD bU=ds d:=by rw[ds];show(([gW,eo,jB]++qc)[d+3]?).getD bU=_;rw[md az];rfl
 rwa[this]at f
def adB:∀a,3<=a->a<17->1∈(e0[a]?.map (·.b)).getD []:=have c:∀b∈fX 17,3<=b->1∈(e0[b]?.map (·.b)).getD []:=A;λf d e=>c f (pr.2 e) d
def Ak(a:bj z){b}(c:qe b):bj (jc z b).2/\cq z (jc z b).2/\sm (jc z b).2 (jc z b).1/\(jc z b).2.b=z.b:=by
 let⟨g,i,d,k⟩:=adA a c;let f:(jc z b).2={z with g:=z.g++[⟨g,[]⟩]}:=by rw[jc];rw[k];rfl
 let⟨j,e⟩:=RO a f λe=>⟨(F9 a d).1.a e.tofj a.a,λl h=>by rw[(e.a (F9 a d).1.1).1]at h;exact((F9 a<|ads a d h).2).a e.tofj a.a,(e.a (F9 a d).1.1).2.2.2▸adn a d▸.b⟩;refine⟨j,e,⟨⟨g,[]⟩,?_,?_⟩,f▸J⟩;rw[f];show(z.g++[_])[(Y z.g)]?=_;simp;rw[f];refine fO.2 ⟨1,(a.c d).2▸adB g i d,iy ?_⟩;rw[(a.c L).1];rfl
def fE(a)(b:a<14):qe (ds a):=⟨a,b,J⟩
end
def Ad(d:ag)(c:Option Nat)(a:ag):Prop:=bj a/\cq d a/\(match c with|Z=>jb a a.b|Q b=>sm a b/\wm a a.b)
def ca(b:ag)(a:tq):Prop:=∃c d,a=Q (c,d)/\Ad b c d
section
variable{y:ag}{z:bV}{x:cK}{w:c3}
structure cr(y)(z)(x)(w):Prop where
 a:bj y
 c:eZ y z x
 b:kR y z x z.c
 nd:z.d=z.c+1
 o:fh y y.b x.a
 h:x.c[z.c]?=Q w
 m:z.e=Z
def LB(f:bj y)(g:eZ y z x){d a c b}(e:bg (bu y) d (a++c))(h:bg (kS (iL<|ax y.a z.g)<|ax y.a z.g) c b):∃i j,d=i++j/\bg (bu y) i a/\bg (bu y) j b:=by obtain⟨o,p,rfl,k,l⟩:=e.k;exact⟨o,p,J,k,bg.l (z:=bu y) (j:=bu y) (λ_ _ _ n m=>g.e f n m) l h⟩
def bg.m{s t j}{r:W s}{p:t}(q:bg j r [p]):∃u,r=[u]/\j u p:=by cases q with|a q v=>cases v;exists _,J
def bg.na{t u j}{s:W t}{q r:u}(p:bg j s [q,r]):∃v w,s=[v,w]/\j v q/\j w r:=by cases p with|a p y=>obtain⟨x,rfl,z⟩:=bg.m y;exists _,x,J,p
def sq{a v}(b:z.a=a++[v]):eH z=Q (v,{z with a:=a}):=by rw[eH];rw[b];simp
def As{a b}(c:z.a=a++[.b b]):hM z=Q (b,{z with a:=a}):=by rw[hM];rw[sq c]
def Gk{a c b}(d:z.a=a++[.b c,.b b]):gL z=Q (c,b,{z with a:=a}):=by
 let e:z.a=(a++[.b c])++[.b b]:=by rw[d,hG];rfl
 rw[gL];rw[As e];simp only;rw[As J]
def cr.ng(q:cr y z x w){p j}{t:qf}{u}(hc:bj p)(s:cq y p)(hh:p.b=j::y.b)(r:j.g=z.g)(ha:j.h=z.h)(he:j.b=z.b)(hg:j.e=Z)(hb:j.d=u)(hd:bg (bu p) j.f t.1)(hf:bg (bu p) j.a t.2)(v:u<Y x.c/\fZ (iL<|ax y.a z.g) (ax y.a z.g) t.1 t.2 (fb (ax y.a z.g) z.h x u)):Ad y Z p:=by let hi:=q.a.a;let t:eZ p z x:=q.c.a s.tofj hi;let u:eZ p j x:=⟨by rw[r,ha];exact t.b,by rw[r];exact t.d,λj p=>t.g j (by rw[<-he];exact p)⟩;refine⟨hc,s,?_⟩;rw[hh];refine⟨x,u,⟨by rw[hb];exact v.1,?_⟩,fh.a s.tofj hi q.o,λt j=>by rw[hg]at j;cases j⟩;rw[hb];let p:=(s.a q.c.c).2.2.1;rw[r,ha,p];have:=u.f hc hd hf (by rw[r,p];exact v.2);exact this
def cr.e(p:cr y z x w){j r}(hb:qe r)(q:j.g=z.g)(s:j.h=z.h)(t:j.c=z.c)(u:j.f=z.f)(v:j.b=z.b)(ha:j.e=z.e):ca y (fJ y j r):=by let⟨hc,hd⟩:=p.a.b (y:=aV y j) J J J J J;let⟨he,hf,hg,hh⟩:=Ak hc hb;let hb:=hd.n hf;let hc:=p.a.a;exists _,_,J,he,hb,hg;rw[hh];let hd:eZ (jc (aV y j) r).2 z x:=p.c.a hb.tofj hc;refine⟨x,⟨q▸s▸hd.b,q▸hd.d,λj r=>hd.g j<|v▸r⟩,ha.trans p.m,⟨t▸p.b.1,?_⟩,fh.a hb.tofj hc p.o⟩;rw[q,s,t,u,(hb.a p.c.c).2.2.1];exact p.b.2.1.c λ_ _=>bu.a hb.tofj hc
def cr.f(p:cr y z x w){j}(q:ad w.b=j):∃r:qf,(∃v s t ha u,hE (dj (ax y.a z.g) z.h x) w j ⟨v,(fb (ax y.a z.g) z.h x z.c).1,(fb (ax y.a z.g) z.h x z.c).2,s⟩=Q t/\iG (dj (ax y.a z.g) z.h x) w j t=Q ⟨ha,r.1,r.2,u⟩/\∀hb∈t.c,iL (ax y.a z.g) hb)/\(qz j=K->ad w.c<Y x.c/\fZ (iL<|ax y.a z.g) (ax y.a z.g) r.1 r.2 (fb (ax y.a z.g) z.h x<|ad w.c))/\(qw j=N->z.c+1<Y x.c/\fZ (iL<|ax y.a z.g) (ax y.a z.g) r.1 r.2 (fb (ax y.a z.g) z.h x<|z.c+1)):=by let⟨hf,⟨hb,t,u,v,ha,j,s,hc⟩,r,hd⟩:=(p.c.i p.a).c z.c w p.h;let he:v=u.c:=(wq u _ s).1;rw[q]at j s r hd;exists hf,⟨hb,t,u,v,ha,j,s,λp q=>hc p<|he▸q⟩,r
def cr.ne(p:cr y z x w){j}(q:w.b.toNat=j){r}(s:hE (dj (ax y.a z.g) z.h x) w j=fU (dj (ax y.a z.g) z.h x) r):∃(t:qf)(hd:W a7)(v ha:W ih),z.a=v++ha/\bg (bu y) ha r/\bg (bu y) v hd/\bg (bu y) z.f t.1/\(iG (dj (ax y.a z.g) z.h x) w j=Q->t.2=hd)/\(∀he,iG (dj (ax y.a z.g) z.h x) w j=eE (dj (ax y.a z.g) z.h x) he->t.2=hd++[he])/\(qz j=K->w.c.toNat<x.c.length/\fZ (iL<|ax y.a z.g) (ax y.a z.g) t.1 t.2 (fb (ax y.a z.g) z.h x w.c.toNat))/\(qw j=N->z.c+1<x.c.length/\fZ (iL<|ax y.a z.g) (ax y.a z.g) t.1 t.2 (fb (ax y.a z.g) z.h x<|z.c+1)):=by
 obtain⟨t,⟨hv,hu,hb,hi,hh,hf,u,hj⟩,hk,hl⟩:=p.f q;rw[s]at hf;obtain⟨_,hq,ht,hs,hp⟩:=yp hf;have hg:=p.b.2.2;rw[show(fb (ax y.a z.g) z.h x z.c).2=hb.a++ht from hs]at hg;obtain⟨v,ha,hn,hm,ho⟩:=LB p.a p.c hg<|hp hj;have hr:=wq hb ⟨hi,t.1,t.2,hh⟩<|q▸u;refine⟨t,hb.a,v,ha,hn,ho,hm,?_,λhc=>?_,λhe hc=>?_,hk,hl⟩;·rw[show t.1=hb.b from hr.2,hq];exact p.b.2.1
 ·rw[hc]at u;exact b9 cd.a (cx u).symm
 ·rw[hc]at u;exact(ml u).2.2
def cr.d(p:cr y z x w){j}{r:qf}{q}(s:bj j)(v:cq y j)(hb:j.b=y.b)(u:bg (bu y) z.f r.1)(ha:bg (bu j) q r.2)(t:z.c+1<Y x.c/\fZ (iL<|ax y.a z.g) (ax y.a z.g) r.1 r.2 (fb (ax y.a z.g) z.h x<|z.c+1)):ca y (Q (Z,aV j {z with a:=q})):=by let⟨hd,r⟩:=s.b (y:=aV j {z with a:=q}) J J J J J;let hc:=v.n r;refine⟨_,_,J,p.ng hd hc (j:={z with a:=q}) (by show _::j.b=_;rw[hb]) J J J p.m p.nd (u.c λ_ _=>bu.a hc.tofj p.a.a) (ha.c λ_ _=>bu.a r.tofj s.a) t⟩
end
section
variable{y:ag}{z:bV}{x:cK}{w:c3}{u:a8}
def Gf{a}(b:bg (bu y) a [cN,cN]):∃g e,a=[.b g,.b e]:=by obtain⟨v,i,rfl,c,d⟩:=b.na;obtain⟨h,rfl⟩:=c.g;obtain⟨f,rfl⟩:=d.g;exists h,f
def Lp{a}(b:bg (bu y) a [cN]):∃d,a=[.b d]:=by obtain⟨v,rfl,c⟩:=b.m;obtain⟨e,rfl⟩:=c.g;exists e
def cr.i(p:cr y z x w){j}(q:ad w.b=j)(r:hE (dj (ax y.a z.g) z.h x) w j=Q):∃s:qf,bg (bu y) z.f s.1/\(iG (dj (ax y.a z.g) z.h x) w j=Q->s.2=(fb (ax y.a z.g) z.h x z.c).2)/\(∀t,iG (dj (ax y.a z.g) z.h x) w j=eE (dj (ax y.a z.g) z.h x) t->s.2=(fb (ax y.a z.g) z.h x z.c).2++[t])/\(qz j=K->ad w.c<Y x.c/\fZ (iL<|ax y.a z.g) (ax y.a z.g) s.1 s.2 (fb (ax y.a z.g) z.h x<|ad w.c))/\(qw j=N->z.c+1<Y x.c/\fZ (iL<|ax y.a z.g) (ax y.a z.g) s.1 s.2 (fb (ax y.a z.g) z.h x<|z.c+1)):=by let⟨u,⟨he,hc,hd,v,s,j,t,hf⟩,ha,hb⟩:=p.f q;have hc:=wq hd ⟨v,u.1,u.2,s⟩<|q▸t;rw[r]at j;have j:=cx j;subst j;refine⟨u,?_,λv=>?_,λq v=>?_,ha,hb⟩;rw[show u.1=_ from hc.2];exact p.b.2.1;rw[v]at t;exact b9 cd.a (cx t).symm;rw[v]at t;exact(ml t).2.2
def cr.l(p:cr y z x w){q}(u:ad w.b=q){r v}(hb:hE (dj (ax y.a z.g) z.h x) w q=Q)(ha:iG (dj (ax y.a z.g) z.h x) w q=eE (dj (ax y.a z.g) z.h x) r)(t:qw q=N){j}(he:bj j)(s:cq y j)(hc:j.b=y.b)(hd:bu j v r):ca y (ep j z v):=by let⟨hg,j,_,q,_,hf⟩:=p.i u hb;refine p.d he s hc j ?_<|hf t;rw[q r ha];exact(p.b.2.2.c λ_ _=>bu.a s.tofj p.a.a).f hd
def cr.n(p:cr y z x w){j}(t:ad w.b=j){r q}(ha:hE (dj (ax y.a z.g) z.h x) w j=fU (dj (ax y.a z.g) z.h x) r)(u:iG (dj (ax y.a z.g) z.h x) w j=eE (dj (ax y.a z.g) z.h x) q)(s:qw j=N):∃hc hd,z.a=hc++hd/\bg (bu y) hd r/\∀(hb:ag)v,bj hb->cq y hb->hb.b=y.b->bu hb v q->ca y (ep hb {z with a:=hc} v):=by let⟨hi,j,r,hb,hf,hg,he,hh,_,hc,_,hd⟩:=p.ne t ha;refine⟨r,hb,hf,hg,λhj v hi j t ha=>?_⟩;refine p.d hi j t hh ?_<|hd s;rw[hc q u];exact(he.c λ_ _=>bu.a j.tofj p.a.a).f ha
def cr.nf(p:cr y z x w){j}(s:ad w.b=j){q}(u:hE (dj (ax y.a z.g) z.h x) w j=fU (dj (ax y.a z.g) z.h x) q)(t:iG (dj (ax y.a z.g) z.h x) w j=Q)(r:qw j=N):∃ha hb,z.a=ha++hb/\bg (bu y) hb q/\∀(v:ag),bj v->cq y v->v.b=y.b->ca y (Q (Z,aV v {z with a:=ha})):=by let⟨hg,j,q,v,hd,he,hc,hf,ha,_,_,hb⟩:=p.ne s u;refine⟨q,v,hd,he,λhg u j s=>?_⟩;refine p.d u j s hf ?_<|hb r;rw[ha t];exact hc.c λ_ _=>bu.a j.tofj p.a.a
def cr.k(j:cr y z x w){q}{p:qf}{r}(t:bg (bu y) z.f p.1)(s:bg (bu y) q p.2)(u:ad w.c<Y x.c/\fZ (iL<|ax y.a z.g) (ax y.a z.g) p.1 p.2 (fb (ax y.a z.g) z.h x<|ad w.c))(v:r=N->z.c+1<Y x.c/\fZ (iL<|ax y.a z.g) (ax y.a z.g) p.1 p.2 (fb (ax y.a z.g) z.h x<|z.c+1)):ca y (uP y {z with a:=q} r w.c):=by rw[uP];cases r with|true=>let⟨r,p⟩:=j.a.b (y:=aV y {z with a:=q,d:=(ad w.c)}) J J J J J;exact⟨_,_,J,j.ng r p J J J J j.m J (t.c λ_ _=>bu.a p.tofj j.a.a) (s.c λ_ _=>bu.a p.tofj j.a.a) u⟩|false=>exact j.d j.a (cq.o y) J t s<|v J
def cr.nb(p:cr y z x w){j}(r:Y y.f<=Y j){q}:bj {y with f:=j,l:=q}/\cq y {y with f:=j,l:=q}:=by let t:cq y {y with f:=j,l:=q}:=⟨⟨λq s j=>⟨s,j,lz.b s⟩,λq v ha=>⟨v,ha,J⟩,r,λu s q=>q,λv r=>r,J⟩,bd _,J⟩;exists p.a.g t.tofj J J J λv j s=>(p.a.e v j s).a t.tofj p.a.a
def LA{a v}(b:z.a=a++[v])(c:bu y v mh):(kT z=Q (Z,{z with a:=a}))\/∃d g,kT z=Q (Q d,{z with a:=a})/\y.f[d]?=Q g:=by rw[kT];rw[sq b];rcases c.k J with rfl|⟨e,rfl,f⟩;exact .inl J;exact .inr ⟨e,y.f[e],J,e7 f⟩
def Lz{a v b}(c:z.a=a++[v])(d:bu y v (fa b)):(iN z=Q (Z,{z with a:=a}))\/∃f e,iN z=Q (Q f,{z with a:=a})/\y.g[f]?=Q e/\dC y.a e.a b=K:=by rw[iN];rw[sq c];rcases d.e J with rfl|⟨j,g,rfl,h,i⟩;exact .inl J;exact .inr ⟨j,g,J,h,i⟩
def Lw(b:cr y z x w){a}(e:ad w.b=a)(g:hE (dj (ax y.a z.g) z.h x) w a=fU (dj (ax y.a z.g) z.h x) [cN,cN])(f:iG (dj (ax y.a z.g) z.h x) w a=eE (dj (ax y.a z.g) z.h x) cN)(d:qw a=N)(c:Int->Int->Int):ca y ((gL z).bind λ(h,i,j)=>ep y j<|.b<|c h i):=by let⟨n,o,l,m,k⟩:=b.n e g f d;obtain⟨p,a,rfl⟩:=Gf m;rw[Gk l];exact k y _ b.a (cq.o y) J bu.b
end
section
variable{y:ag}{z:bV}{w:cK}{x:c3}{u:a8}
def adX(a:cr y z w x)(b:ad x.b=0):ca y (cf u y z 0 x.c):=by let⟨f,c,d,_,_,e⟩:=a.i b J;refine a.d a.a (cq.o y) J c ?_<|e J;rw[d J];exact a.b.2.2
def ad2(a:cr y z w x)(b:ad x.b=2):ca y (cf u y z 2 x.c):=by let⟨d,⟨r,q,t,h,g,e,i,s⟩,_,j⟩:=a.f b;have e:=cx e;subst e;have c:vq (dj (ax y.a z.g) z.h w) x.c _=Q ⟨h,d.1,d.2,g⟩:=i;rw[vq]at c;split at c;cases c;next p m=>cases f:ao p.a 4 with|true=>rw[f]at c;cases c|false=>rw[f]at c;let⟨_,k,l⟩:=ml c;let⟨v,n,o⟩:=a.b.2.1.h m;show ca y ((z.f[(ad x.c)]?).bind λv=>ep y z v);rw[n];refine a.d a.a (cq.o y) J ?_ ?_<|j J;rw[show d.1=_ from k];exact a.b.2.1;rw[show d.2=_ from l];exact a.b.2.2.f o
def aeb(a:cr y z w x)(b:ad x.b=3):ca y (cf u y z 3 x.c):=by
 let⟨i,⟨h,c,o,j,g,k,d,m⟩,_,l⟩:=a.f b;have f:=k;unfold xt at f;obtain⟨c,t,rfl⟩:=b3.1 f;let⟨_,k,e⟩:=wt t;have h:=a.b.2.2;rw[show(fb (ax y.a z.g) z.h w z.c).2=c.2.a++[c.1]from e]at h;let⟨j,v,p,o,f⟩:=h.g;have d:=cx d;show ca y ((eH z).bind _);rw[sq p];have g:=Ih ((a.c.h a.a).2.2.2.2.2.1.2 x<|bl a.h)<|.inr b;have r:Y z.f=ad w.b:=by rw[a.b.2.1.d];have n:=Gg (c:=ax y.a z.g) (j:=z.h)<|a.c.h a.a;let⟨_,b,q,_⟩:=a.c.d;exact aer n q a.c.b (wn a.a) a.b.1
 have s:ad x.c<Y z.f:=by rw[r];have n:=hV g.1;have p:=dK.1 g.2;omega
 show ca y (if ad x.c<Y z.f then _ else _);rw[aC s];let⟨m,e⟩:=a.a.b (y:=aV y {z with a:=j,f:=z.f.set (ad x.c) v}) J J J J J;refine⟨_,_,J,a.ng m e J J J J a.m a.nd ?_ ?_<|l J⟩;rw[show i.1=c.2.b.set (ad x.c) c.1 from(b9 cd.b d).symm,k];exact(a.b.2.1.c λ_ _=>bu.a e.tofj a.a.a).i<|f.a e.tofj a.a.a;rw[show i.2=c.2.a from(b9 cd.a d).symm];exact o.c λ_ _=>bu.a e.tofj a.a.a
def aef(a:cr y z w x)(b:ad x.b=4):ca y (cf u y z 4 x.c):=by let⟨f,⟨q,o,d,r,p,g,c,s⟩,_,i⟩:=a.f b;have h:=g;obtain⟨d,k,rfl⟩:=b3.1 h;let⟨_,l,m⟩:=wt k;have e:=a.b.2.2;rw[show(fb (ax y.a z.g) z.h w z.c).2=d.2.a++[d.1]from m]at e;let⟨n,v,j,t,b⟩:=e.g;have c:=cx c;show ca y ((eH z).map _);rw[sq j];refine a.d a.a (cq.o y) J ?_ ?_<|i J;rw[show f.1=d.2.b from(b9 cd.b c).symm,l];exact a.b.2.1;rwa[show f.2=d.2.a from(b9 cd.a c).symm]
def aeg(a:cr y z w x)(b:ad x.b=5):ca y (cf u y z 5 x.c):=by let⟨f,⟨t,r,h,d,s,c,g,e⟩,_,i⟩:=a.f b;have c:=cx c;subst c;have h:=g;let⟨e,n,m⟩:=ay.1 h;let⟨_,c,p⟩:=wt n;let⟨_,j,k⟩:=ml m;have d:=a.b.2.2;rw[show(fb (ax y.a z.g) z.h w z.c).2=e.2.a++[e.1]from p]at d;let⟨q,v,l,b,o⟩:=d.g;show ca y ((z.a.getLast?).bind λv=>ep y z v);rw[show z.a.getLast?=Q v by rw[l];simp];refine a.d a.a (cq.o y) J ?_ ?_<|i J;rw[show f.1=_ from j];exact a.b.2.1;rw[show f.2=_ from k];exact a.b.2.2.f o
def aeh(a:cr y z w x)(b:ad x.b=9):ca y (cf u y z 9 x.c):=by let⟨g,h,d,e,c⟩:=a.n b J J J;obtain⟨i,f,rfl⟩:=Gf e;show ca y ((gL z).bind _);rw[Gk d];show ca y (if f=0 then fJ y _ RQ else ep y _ _);split;exact a.e (fE 7 L) J J J J J J;exact c y _ a.a (cq.o y) J bu.b
def adY(a:cr y z w x)(b:ad x.b=10):ca y (cf u y z 10 x.c):=let⟨f,c,d,_,e,_⟩:=a.i b J;a.k c (d J▸a.b.2.2) (e J) nofun
def adZ(a:cr y z w x)(b:ad x.b=11):ca y (cf u y z 11 x.c):=by let⟨n,m,j,k,g,h,f,i,c,_,d,e⟩:=a.ne b J;obtain⟨l,rfl⟩:=Lp h;show ca y ((hM z).bind _);rw[As g];exact a.k i (c J▸f) (d J)<|λ_=>e J
def ad0(a:cr y z w x)(b:ad x.b=12):ca y (cf u y z 12 x.c):=by let⟨o,n,j,k,g,h,f,i,c,_,d,e⟩:=a.ne b J;obtain⟨m,l,rfl⟩:=Gf h;show ca y ((gL z).bind _);rw[Gk g];exact a.k i (c J▸f) (d J)<|λ_=>e J
def cr.g(p:cr y z w x){j r}(q:ad x.b=j)(s:hE (dj (ax y.a z.g) z.h w) x j=qD r):∃(t:qf)(u:W a7)(hb:a7)(ha:W ih)(v:ih),z.a=ha++[v]/\bu y v hb/\hb.a∈r/\bg (bu y) ha u/\bg (bu y) z.f t.1/\(iG (dj (ax y.a z.g) z.h w) x j=Q->t.2=u)/\(∀r,iG (dj (ax y.a z.g) z.h w) x j=eE (dj (ax y.a z.g) z.h w) r->t.2=u++[r])/\(qz j=K->ad x.c<Y w.c/\fZ (iL<|ax y.a z.g) (ax y.a z.g) t.1 t.2 (fb (ax y.a z.g) z.h w<|ad x.c))/\(qw j=N->z.c+1<Y w.c/\fZ (iL<|ax y.a z.g) (ax y.a z.g) t.1 t.2 (fb (ax y.a z.g) z.h w<|z.c+1)):=by let⟨r,⟨hf,ha,j,hc,hb,t,u,hg⟩,hd,he⟩:=p.f q;rw[s]at t;let⟨_,hh,ha,hf,hi⟩:=Lq t;let s:=p.b.2.2;rw[show(fb (ax y.a z.g) z.h w z.c).2=j.a++[ha]from hf]at s;let⟨t,v,hg,hf,hj⟩:=s.g;let s:=wq j ⟨hc,r.1,r.2,hb⟩ (by rw[q];exact u);refine⟨r,j.a,ha,t,v,hg,hj,hi,hf,?_,λq=>?_,λt q=>?_,hd,he⟩;rw[show r.1=j.b from s.2,hh];exact p.b.2.1;rw[q]at u;exact b9 cd.a (cx u).symm;rw[q]at u;exact(ml u).2.2
def ad1(a:cr y z w x)(b:ad x.b=13):ca y (cf u y z 13 x.c):=by let⟨k,j,l,i,v,g,_,_,f,h,c,_,d,e⟩:=a.g b J;show ca y ((eH z).bind _);rw[sq g];exact a.k h (c J▸f) (d J)<|λ_=>e J
end
section
variable{z:ag}{y:bV}{w:cK}{x:c3}{u:a8}
def SR(d:bj z){a b}(c:fh z a b)(e:b.a=0):jb z a:=by cases a with|nil=>trivial|cons o a=>let⟨w,g,j,p,⟨k,q,s,l,m,h⟩,n⟩:=c;rw[aC e]at h;let i:=g.f d l m h;exact⟨w,g,⟨k,i.1,i.2⟩,n,λr f=>by rw[j]at f;cases f⟩
def adF(e:bj z){a c b v}(d:fh z (a::c) b)(f:b.a≠0)(g:bu z v b):jb z ({a with a:=a.a++[v]}::c):=by let⟨w,h,l,q,⟨m,r,t,n,o,j⟩,p⟩:=d;rw[ak f]at j;let k:=h.f e n (o.f g) j;exact⟨w,⟨h.b,h.d,h.g⟩,⟨m,k.1,k.2⟩,p,λs i=>by rw[show a.e=Z from l]at i;cases i⟩
def ad3(a:cr z y w x)(b:ad x.b=22):ca z (cf u z y 22 x.c):=by
 let⟨s,⟨o,m,l,p,n,h,q,r⟩,_,_⟩:=a.f b;let c:(bif ao w.a.a 0 then Q _ else Z)=Q l:=h;let j:w.a.a=0:=by cases e:ao w.a.a 0 with|true=>exact dc.1 e|false=>rw[e]at c;cases c
 let k:=SR a.a a.o j;show ca z (Q (Z,match y.b with|Q f=>bX z 4 0 (bW z.a f)|Z=>z));cases y.b with|none=>exists _,_,J,a.a,cq.o z|some g=>let⟨i,d⟩:=a.a.b (y:=bX z 4 0<|bW z.a g) J J J J J;exact⟨_,_,J,i,d,k.a d.tofj a.a.a⟩
def ad4(a:cr z y w x)(b:x.b.toNat=23):ca z (cf u z y 23 x.c):=by obtain⟨hi,⟨he,hc,k,hf,hd,n,hg,o⟩,_,_⟩:=a.f b;have c:(bif(!(ao w.a.a 0))then e3 (dj (ax z.a y.g) y.h w) w.a _ else Z)=Q k:=n;cases d:ao w.a.a 0 with|true=>rw[d]at c;cases c|false=>rw[d]at c;(have h:w.a.a≠0:=λm=>by rw[dc.2 m]at d;cases d);obtain⟨_,_,l,s,r⟩:=lT c;have i:=a.b.2.2;rw[show(fb (ax z.a y.g) y.h w y.c).2=k.a++[l]from s]at i;obtain⟨hh,v,q,_,t⟩:=i.g;have ha:=a.c.e a.a t<|r o;show ca z ((eH y).bind _);rw[sq q];have e:=a.o;cases j:z.b with|nil=>rw[j]at e;exact aE e h|cons f hb=>rw[j]at e;obtain⟨p,g⟩:=a.a.b (y:=aV {z with b:=hb} {f with a:=f.a++[v]}) J J J J J;exact⟨_,_,J,p,g,(adF a.a e h ha).a g.tofj a.a.a⟩
def ad5(a:cr z y w x)(b:ad x.b=24):ca z (cf u z y 24 x.c):=by let⟨r,q,e,m,j,k,n,o,_⟩:=a.ne b J;obtain⟨v,rfl,l⟩:=k.m;show ca z ((iN y).bind _);rcases Lz j l with d|⟨p,f,d,g,h⟩;rw[d];exact a.e (fE 8 L) J J J J J J;rw[d];let⟨i,c⟩:=a.a.b (y:=aV z {y with a:=e}) J J J J J;exact⟨_,_,J,i,c,⟨f,g,h⟩,w,(⟨a.c.b,a.c.d,a.c.g⟩:eZ z {y with a:=e} w).a c.tofj a.a.a,a.m,uI.a c.tofj a.a.a a.c.c ⟨a.b.1,a.b.2.1⟩,fh.a c.tofj a.a.a a.o⟩
def ad6(a:cr z y w x)(c:ad x.b=25)(b:y.a.getLast?=Q .a):ca z (cf u z y 25 x.c):=by
 let⟨l,k,m,j,v,d,_,_,g,h,_,e,_,f⟩:=a.g c J;let i:v=.a:=by rw[d]at b;simpa using b
 refine a.d a.a (cq.o z) J h ?_<|f J;rw[e (fa x.a.b) J,d,i];exact g.f<|bu.c (by show(3)≠1;decide)
def ad7(a:cr z y w x)(b:ad x.b=26):ca z (cf u z y 26 x.c):=by let⟨j,i,k,h,v,f,_,_,e,g,_,c,_,d⟩:=a.g b J;show ca z ((eH y).bind _);rw[sq f];refine a.d a.a (cq.o z) J g ?_<|d J;rw[c cN J];exact e.f bu.b
def ad8(a:cr z y w x)(b:ad x.b=27):ca z (cf u z y 27 x.c):=by let⟨i,j,g,h,d⟩:=a.nf b J J J;obtain⟨c,rfl⟩:=Lp h;show ca z ((hM y).bind _);rw[As g];let⟨e,f⟩:=a.a.b (y:=bX z 1 c bU) J J J J J;exact d (bX z 1 c bU) e f J
def ad9(a:cr z y w x)(b:ad x.b=28):ca z (cf u z y 28 x.c):=by show ca z (match u.c[z.k]? with|Q c=>ep {z with k:=z.k+1} y (.b c)|Z=>ep z y (.b 0));cases u.c[z.k]? with|none=>exact a.l b J J J a.a (cq.o z) J bu.b|some f=>let⟨d,e⟩:=a.a.b (y:={z with k:=z.k+1}) J J J J J;exact a.l b J J J d e J bu.b
def aea(a:cr z y w x)(b:x.b.toNat=29):ca z (cf u z y 29 x.c):=by
 obtain⟨k,l,i,j,f⟩:=a.n b J J J;obtain⟨d,rfl⟩:=Lp j;show ca z ((hM y).bind _);rw[As i];show ca z (if d<0 then fJ z _ RR else match lC z d with|Z=>fJ z _ Df|Q e=>ep {e with f:=e.f++[e8 d.toNat 0]} _ (.d e.f.length));split;·exact a.e (fE 11 L) J J J J J J
 ·rw[lC];split;(·next c=>split at c;(·exact a.e (fE 12 L) J J J J J J);·cases c);·next e c=>split at c;(·cases c);·cases c;obtain⟨g,h⟩:=a.nb (j:=z.f++[e8 d.toNat 0]) az;exact f _ _ g h J<|bu.f az
def aec(a:cr z y w x)(b:ad x.b=30):ca z (cf u z y 30 x.c):=by
 let⟨e,r,m,n,i⟩:=a.n b J J J;obtain⟨v,b,rfl,j,k⟩:=n.na;obtain⟨c,rfl⟩:=k.g;let l:y.a=(e++[v])++[.b c]:=by rw[m,hG];rfl
 show ca z ((hM y).bind _);rw[As l];show ca z ((kT {y with a:=e++[v]}).bind _);rcases LA (z:={y with a:=e++[v]}) J j with f|⟨q,d,f,p⟩;rw[f];exact a.e (fE 8 L) J J J J J J;rw[f];show ca z ((z.f[q]?).bind λd=>if c<0\/c>=Y d then fJ z _ Aj else(d[(ad c)]?).bind λg=>ep z _<|.b g);rw[p];show ca z (if c<0\/c>=Y d then fJ z _ Aj else(d[(ad c)]?).bind λh=>ep z _<|.b h);split;exact a.e (fE 10 L) J J J J J J;next s=>let⟨t,o⟩:=a1 (b:=d) (a:=ad c) L;rw[o];exact i z _ a.a (cq.o z) J bu.b
def bg.n{u v j}{t:W u}{q r s:v}(p:bg j t [q,r,s]):∃w x,t=w::x/\j w q/\bg j x [r,s]:=by cases p with|a p y=>exists _,_,J,p
def aed(a:cr z y w x)(b:x.b.toNat=31):ca z (cf u z y 31 x.c):=by
 obtain⟨g,r,o,p,i⟩:=a.nf b J J J;obtain⟨v,s,rfl,j,k⟩:=p.n;obtain⟨c,e,rfl⟩:=Gf k;have l:y.a=(g++[v])++[.b c,.b e]:=by rw[o,hG];rfl
 show ca z ((gL y).bind _);rw[Gk l];show ca z ((kT {y with a:=g++[v]}).bind _);rcases LA (z:={y with a:=g++[v]}) J j with h|⟨f,d,h,q⟩;·rw[h];exact a.e (fE 8 L) J J J J J J
 ·rw[h];show ca z ((z.f[f]?).bind λd=>if c<0\/c>=d.length then fJ z _ Aj else Q (Z,aV {z with f:=z.f.set f<|d.set c.toNat e} _));rw[q];show ca z (if c<0\/c>=d.length then fJ z _ Aj else Q (Z,aV {z with f:=z.f.set f<|d.set c.toNat e} _));split;(·exact a.e (fE 10 L) J J J J J J);·obtain⟨m,n⟩:=a.nb (j:=z.f.set f<|d.set c.toNat e) az;exact i _ m n J
def aee(a:cr z y w x)(b:ad x.b=32):ca z (cf u z y 32 x.c):=by let⟨k,l,f,g,d⟩:=a.n b J J J;obtain⟨v,rfl,e⟩:=g.m;show ca z ((kT y).bind _);rcases LA f e with c|⟨j,m,c,h⟩;rw[c];exact a.e (fE 8 L) J J J J J J;rw[c];show ca z ((z.f[j]?).bind λi=>ep z _<|.b<|Y i);rw[h];exact d z _ a.a (cq.o z) J bu.b
def aei(a:cr z y w x)(b:eM (ad x.b)=Z):ca z (cf u z y (ad x.b) x.c):=by have c:=(wW<|(a.c.h a.a).2.2.2.2.2.1.2 x<|bl a.h).1;generalize j:(ad x.b)=p at b c⊢;match p,j,b,c with|0,k,_,_=>exact adX a k|1,l,_,_=>exact a.l l J J J a.a (cq.o z) J bu.b|2,m,_,_=>exact ad2 a m|3,n,_,_=>exact aeb a n|4,o,_,_=>exact aef a o|5,p,_,_=>exact aeg a p|6,q,_,_=>exact Lw a q J J J<|λd g=>rh<|d+g|7,r,_,_=>exact Lw a r J J J<|λe h=>rh<|e-h|8,s,_,_=>exact Lw a s J J J<|λf i=>rh<|f*i|9,t,_,_=>exact aeh a t|10,v,_,_=>exact adY a v|11,c,_,_=>exact adZ a c|12,d,_,_=>exact ad0 a d|13,e,_,_=>exact ad1 a e|14,f,_,_=>exact a.l f J J J a.a (cq.o z) J<|bu.c A|22,g,_,_=>exact ad3 a g|23,h,_,_=>exact ad4 a h|24,i,_,_=>exact ad5 a i|27,j,_,_=>exact ad8 a j|28,k,_,_=>exact ad9 a k|29,l,_,_=>exact aea a l|30,m,_,_=>exact aec a m|31,n,_,_=>exact aed a n|32,o,_,_=>exact aee a o|15,_,b,_=>cases b|16,_,b,_=>cases b|17,_,b,_=>cases b|18,_,b,_=>cases b|19,_,b,_=>cases b|20,_,b,_=>cases b|21,_,b,_=>cases b|25,_,b,_=>cases b|26,_,b,_=>cases b|b+33,_,_,a=>omega
end
section
variable{z t:ag}{y:bV}{x:cK}{w:c3}{u:a8}
def Di{c:W dg}{d j e b}(a:(c.modify d e)[j]?=Q b):(j≠d/\c[j]?=Q b)\/(j=d/\∃f,c[j]?=Q f/\b=e f):=by
 rw[qT]at a;split at a;next h=>subst h;obtain⟨g,l,rfl⟩:=b3.1 a;exact .inr ⟨J,g,l,J⟩
 next i=>(let a:c[j]?=Q b:=by simpa using a);exact .inl ⟨λk=>i k.symm,a⟩
def Ls{c:W dg}{d j:Nat}{b:dg->dg}{a:dg}(f:∀a,lz a (b a))(e:c[j]?=Q a):∃g,(c.modify d b)[j]?=Q g/\lz a g:=by rw[qT,e];split;exact⟨b a,J,f a⟩;exact⟨a,J,lz.b a⟩
def Sd{a b}(c:∀e,a (b e)=K->a e=K):∀(g:W dg)(j:Nat),Y ((g.modify j b).filter a)<=Y (g.filter a)|[],n=>by rw[List.modify_nil];exact bd _|d::m,0=>(by show Y ((b d::m).filter a)<=_;rw[i2,i2];cases l:a (b d)with|true=>rw[c d l];exact bd _|false=>split;(next k=>cases k);split<;>simp)|i::h,f+1=>by show Y ((i::h.modify f b).filter a)<=_;rw[i2,i2];have:=Sd c h f;split;simpa using this;exact this
def bj.m(r:bj z){p q}(s:∀hc,lz hc (q hc))(hb:∀hc,(q hc).g=.c->hc.g=.c)(t:∀hc,z.a[p]?=Q hc->(q hc).g=.b->∀hi∈bY z.a p,pz z hi)(v:∀hc,z.a[p]?=Q hc->bg (bu z) (q hc).a hc.h)(y:∀(hc)(hh hx:Nat)(ht:W (S dx))(hv:dx),z.a[p]?=Q hc->(q hc).i[hh]?=Q ht->ht[hx]?=Q (Q hv)->∃(x:cK)(w:c3),hc.c.a[hh]?=Q x/\x.c[hx]?=Q w/\tr z w hv)(ha:∀(hc:dg)(hh:Nat)(x:cK),z.a[p]?=Q hc->hc.c.a[hh]?=Q x->∃ht,(q hc).i[hh]?=Q ht/\ht.length=x.c.length):bj (hN z p q)/\cq z (hN z p q):=by
 have hm:=r.a;have ho:cq z (hN z p q):=⟨⟨λj hc hl=>Ls s hl,λh1 hc hl=>⟨hc,hl,J⟩,bd _,λu p hi=>hi,λq hi=>hi,J⟩,by have:=Sd (λhc hd=>iy<|hb hc<|ej hd) z.a p;exact P4 this _,J⟩;have hy:∀{j hf},(hN z p q).a[j]?=Q hf->∃hc,z.a[j]?=Q hc/\lz hc hf:=λ{j hf}hd=>by rcases Di hd with⟨_,hd⟩|⟨_,hg,hq,rfl⟩;(·exact⟨hf,hd,lz.b _⟩);·exact⟨hg,hq,s hg⟩
 have hn:∀j,bY (hN z p q).a j=bY z.a j/\bW (hN z p q).a j=bW z.a j/\ax (hN z p q).a j=ax z.a j/\c5 (hN z p q).a j=c5 z.a j:=λj=>by rcases dy j z.a.length with hd|hd;(·exact ho.a hd);·unfold bY bW ax c5;rw[ix hd,ix (by show(z.a.modify p q).length<=j;rwa[Fz])];exists J,J,J
 have ke:∀j u,dC (hN z p q).a j u=dC z.a j u:=λj u=>by rw[dC];rw[(hn j).1];congr 1;funext hp;rw[(hn hp).2.1]
 have km:∀{j},dF (hN z p q) j->dF z j:=λ{j}hd=>⟨by have:=hd.1;rwa[show(hN z p q).a=z.a.modify p q from rfl,Fz]at this,λhi hs=>by have:=hd.2 hi<|(hn j).1▸hs;rwa[(hn hi).2.1]at this⟩;have kk:el (hN z p q).a:=by refine⟨λj hf hd=>?_,λhh h5=>?_,λj hf h2 hd=>?_,λj hf hd hh kf h8=>?_,λj hf hd hi hs=>?_⟩;(·obtain⟨hc,hl,he⟩:=hy hd;obtain⟨hv,hj,hk⟩:=hm.c j hc hl;refine⟨hv,he.a.trans hj,hk.imp id λ⟨hu,hg,h6,kl,kn⟩=>?_⟩;obtain⟨kd,kj,kc⟩:=Ls s h6;exact⟨hu,kd,kj,kl,kn.trans kc.a.symm⟩);(·obtain⟨hc,hg,hl,h4,hj,hk,hr,h3,kg,kh⟩:=hm.b hh h5;obtain⟨hf,ki,he⟩:=Ls s hl;exact⟨hf,hg,ki,h4,he.e.trans hj,he.a.trans hk,he.c.trans hr,he.g.trans h3,he.f.trans kg,he.d.trans kh⟩);(·obtain⟨hc,hl,he⟩:=hy hd;obtain⟨hj,hk,hu,hr,h3⟩:=hm.d j hc h2 hl;exact⟨he.e▸he.c▸hj,he.c▸hk,hu,he.a▸hr,(hn hu).2.1▸he.c▸h3⟩);(·obtain⟨hc,hl,he⟩:=hy hd;rw[he.c]at h8;obtain⟨hu,hj,hk,hr⟩:=hm.f j hc hl hh kf h8;exact⟨hu,he.d▸hj,he.f▸hk,he.g▸hr⟩);·obtain⟨hc,hl,he⟩:=hy hd;rw[he.a]at hs;obtain⟨kp,h7⟩:=hm.e j hc hl hi hs;exact⟨kp,he.g▸(hn hi).2.2.2▸h7⟩
 refine⟨⟨kk,λko hp hi=>?_,r.na,λhh h5=>?_,λhu h6 hp hz=>?_,λj hf hd h0 hi hs=>?_,λj hf hd=>?_,λh1 hg h4=>(r.e h1 hg h4).a ho.tofj hm,λj hh hx hf ht hv hd h9 kb=>?_,λj hh hf x hd hw=>?_,λj h7 h2 x hw hp hz h1 ka h0=>?_⟩,ho⟩;·obtain⟨hj,hk⟩:=r.d ko hp hi;exact⟨hj.a ho.tofj hm,(hn hp).2.1▸hk⟩
 ·rw[(hn hh).2.1];exact r.f hh h5
 ·rw[ke];exact r.o hu h6 hp hz
 ·rw[(hn j).1]at hs;rcases Di hd with⟨_,hd⟩|⟨rfl,hg,hq,rfl⟩;(·exact(r.n j hf hd h0 hi hs).a ho.tofj hm);·exact(t hg hq h0 hi hs).a ho.tofj hm
 ·rcases Di hd with⟨_,hd⟩|⟨rfl,hg,hq,rfl⟩;(·exact(r.k j hf hd).c λ_ _=>bu.a ho.tofj hm);·rw[(s hg).f];exact(v hg hq).c λ_ _=>bu.a ho.tofj hm
 ·rcases Di hd with⟨_,hd⟩|⟨rfl,hg,hq,rfl⟩;(·obtain⟨x,w,hj,hk,hr⟩:=r.h j hh hx hf ht hv hd h9 kb;exact⟨x,w,hj,hk,hr.a ho.tofj hm⟩);·obtain⟨x,w,hj,hk,hr⟩:=y hg hh hx ht hv hq h9 kb;exact⟨x,w,(s hg).c▸hj,hk,hr.a ho.tofj hm⟩
 ·rcases Di hd with⟨_,hd⟩|⟨rfl,hg,hq,rfl⟩;(·exact r.l j hh hf x hd hw);·rw[(s hg).c]at hw;exact ha hg hh x hq hw
 ·rw[(hn j).2.2.1]at hw;rw[(hn j).1]at hz;rw[(hn hp).2.2.1]at ka;exact r.nb j (km h7) h2 x hw hp hz h1 ka h0
def aey{a}(b:qs qJ a):a.a≠0:=λc=>by have:=b.1;rw[c]at this;cases this
def Sj(d:bj z){b e:Nat}{c}(a:(ax z.a b).c[e]?=Q c):c.c.a≠0:=by rcases dy b 17 with f|f;let⟨m,n,k,g,_,_,j,_⟩:=d.a.b b f;rw[ax]at a;rw[k]at a;simp only at a;rw[e0]at g;rw[cv,sd f]at g;cases g;rw[j]at a;cases a;rw[ax]at a;cases h:z.a[b]? with|none=>rw[h]at a;cases a|some i=>rw[h]at a;let l:=(d.a.d b i f h).2.1;exact aey (l.2.2.1.2 e (bc.1 a).1 c a).2.1
def RY{a}:bu z (mi a) a:=by
 rw[mi];split;next b=>exact⟨λ_=>⟨0,J⟩,λc=>aE (b.symm.trans c) A,λd=>aE (b.symm.trans d) A,λe=>aE (b.symm.trans e) A⟩
 next f=>exact bu.c f
def RZ:∀a:W a7,bg (bu z) (a.map mi) a|[]=>.b|_::b=>.a RY (RZ b)
def Dn(c:bj z){a}(d:a<Y z.a)(b:eO z.a a=.b):∀g∈bY z.a a,pz z g:=by let⟨f,e⟩:=a1 d;rw[eO]at b;rw[e]at b;exact c.n a f e b
def aez(b:cr z y x w)(d:ad w.b=15){a}(c:qg z w (.b a))(e:eO z.a a=.b):ca z (dP u z y 15<|.b a):=by
 show ca z (match lC z (Y<|c5 z.a a)with|Z=>fJ z y Df|Q t=>ep {t with g:=t.g++[⟨a,(c5 z.a a).map mi⟩]} y (.c<|Y t.g));rw[lC];split;next j=>split at j;exact b.e (fE 12 L) J J J J J J;cases j
 next t h=>split at h;cases h;cases h;let⟨f,g⟩:=b.a.b (y:={z with l:=z.l-(1+Y (c5 z.a a))}) J J J J J;let⟨l,m⟩:=RO f (c:=⟨a,(c5 z.a a).map mi⟩) J λi=>⟨(c.1.a g.tofj b.a.a).a i.tofj f.a,λk n=>(((Dn b.a c.1.1 e) k n).a g.tofj b.a.a).a i.tofj f.a,RZ _⟩;refine b.l d J J J l (g.n m) J<|bu.d (j:=⟨a,(c5 z.a a).map mi⟩) ?_ ?_;simp;rw[<-c.2];exact RX b.a.a c.1.1
def cr.na(u:cr z y x w){r v q}(t:y.a=r++[v])(p:bu z v q)(s:q.a∈([3,5]:W Int))(j:lU y=Q N):∃ha hb,v=.c ha/\z.g[ha]?=Q hb:=by
 let r:v≠.a:=λu=>by rw[lU]at j;rw[t,u]at j;simp at j
 rcases cB.1 s with j|j;rcases p.e j with j|⟨q,s,t,u,_⟩;exact aE j r;exists q,s,t;rcases cB.1 j with q|q;exact aE (p.h q) r;cases q
def aeG(a:cr z y x w)(c:ad w.b=25){b}(e:qg z w (.b b))(d:lU y=Q N):ca z (dP u z y 25<|.b b):=by
 let⟨s,r,t,q,v,g,p,o,l,n,_,j,_,k⟩:=a.g c J;obtain⟨f,i,rfl,h⟩:=a.na g p o d;show ca z (match y.a.getLast? with|Q (.c f)=>if dC z.a (eV z f) (bW z.a b)then Q (Z,aV z y)else fJ z y F8|_=>Z);rw[show y.a.getLast?=Q (.c f)by rw[g];simp];show ca z (if dC z.a (eV z f) (bW z.a b)then Q (Z,aV z y)else fJ z y F8);rw[show eV z f=i.a by rw[eV];rw[h]];split;next m=>refine a.d a.a (cq.o z) J n ?_<|k J;rw[j (fa w.a.b) J,g];exact l.f<|bu.d h<|e.2▸m
 exact a.e (fE 9 L) J J J J J J
def aeH(a:cr z y x w)(c:ad w.b=26){b}(d:lU y=Q N):ca z (dP u z y 26<|.b b):=by
 let⟨t,s,g,f,v,e,n,m,j,k,_,h,_,i⟩:=a.g c J;obtain⟨o,q,rfl,r⟩:=a.na e n m d;let l:iN y=Q (Q o,{y with a:=f}):=by rw[iN];rw[sq e]
 show ca z (match iN y with|Q (Q p,g)=>ep z g (.b<|if dC z.a (eV z p) (bW z.a b)then 1 else 0)|_=>Z);rw[l];refine a.d a.a (cq.o z) J k ?_<|i J;rw[h cN J];exact j.f bu.b
end
section
variable{z:ag}{y:bV}{w:cK}{x:c3}{u:a8}
def Sv{a}(b:x.a.d.a≠0):(λc:cd=>bif(!(ao x.a.d.a 0))then eE a x.a.d c else Q c)=eE a x.a.d:=by funext e;cases d:ao x.a.d.a 0 with|true=>exact aE (dc.1 d) b|false=>rfl
def Ll(f:bj z){b c j:Nat}{a:i5}(g:b<Y z.a)(d:(ax z.a b).c[c]?=Q a)(e:((z.a[b]?).bind λm=>m.e[c]?)=Q j):(a.a=K->∃k,z.a[b]?=Q k/\k.h[j]?=Q a.c)/\(a.a=N->(c5 z.a b)[j]?=Q a.c):=by
 let⟨i,h⟩:=a1 g;rw[h]at e;let s:i.c.c[c]?=Q a:=by rw[ax]at d;rwa[h]at d
 let⟨t,p,q,r⟩:=f.a.f b i h c a s;let l:i.e[c]?=Q j:=e;rw[p]at l;cases l;exact⟨λn=>⟨i,h,q n⟩,λo=>by rw[c5];rw[h];exact r o⟩
def SL(b:bj z){d a g j h:Nat}{c:C6}{e:i5}(k:dF z d)(f:a∈bY z.a d)(l:(ax z.a a).c[g]?=Q e)(m:((z.a[a]?).bind λt=>t.e[g]?)=Q j)(o:e.a=N)(n:z.g[h]?=Q c)(i:dC z.a c.a (bW z.a d)=K):(c5 z.a c.a)[j]?=Q e.c:=by
 let s:=b.e h c n;let r:=s.1.c b.a k i;let⟨p,q⟩:=a1 s.1.1;let v:a∈p.b:=by rw[fv q]at r;exact((b.a.a _ p q).2.2 d r).2 a f
 let⟨x,w⟩:=b.a.e _ p q a v;let u:=(Ll b (jZ b.a f).2 l m).2 o;rw[c5];rw[q];show p.f[j]?=_;rwa[w,gh (bc.1 u).1]
def aeA(a:cr z y w x)(c:x.b.toNat=16){b j}(d:qg z x (.c b j)):ca z (dP u z y 16<|.c b j):=by
 obtain⟨ht,hy,hw,ha,hb,hc,i,k,hd,l⟩:=d;rw[c]at l;have t:x.a.d.a≠0:=k▸Sj a.a i;obtain⟨o,⟨hu,hr,e,hv,hs,q,hx,r⟩,_,s⟩:=a.f c;obtain⟨_,hi,hq,hj,hh⟩:=lT<|show e3 (dj (ax z.a y.g) y.h w) (fa x.a.b) _=Q e from q;have m:=a.b.2.2;rw[show(fb (ax z.a y.g) y.h w y.c).2=e.a++[hq]from hj]at m;obtain⟨p,v,hf,he,hk⟩:=m.g;have hl:=a.c.e a.a hk<|hh r;obtain⟨_,ho,hp⟩:=ml (show eE (dj (ax z.a y.g) y.h w) x.a.d e=Q _ from by rwa[<-Sv t]);show ca z ((iN y).bind _);rcases Lz hf hl with g|⟨n,f,g,h,hg⟩;·rw[g];exact a.e (fE 8 L) J J J J J J
 ·rw[g];show ca z ((z.g[n]?).bind λf=>(f.b[j]?).bind λv=>ep z {y with a:=p} v);rw[h];obtain⟨hz,hm,hn⟩:=(a.a.e n f h).2.2.h<|SL a.a ha hc i hd l h<|hb▸hg;show ca z ((f.b[j]?).bind _);rw[hm];refine a.d a.a (cq.o z) J ?_ ?_<|s J;(·rw[show o.1=e.b from ho,hi];exact a.b.2.1);·rw[show o.2=e.a++[x.a.d]from hp];exact he.f<|k▸hn
def aeB(a:cr z y w x)(c:x.b.toNat=17){b j}(d:qg z x (.c b j)):ca z (dP u z y 17<|.c b j):=by
 obtain⟨ha,km,hb,hq,hr,hs,ht,hu,hv,he⟩:=d;rw[c]at he;obtain⟨t,⟨kk,ki,s,kl,kj,hm,hc,hd⟩,_,hp⟩:=a.f c;obtain⟨kb,kd,ke⟩:=ay.1<|show(e3 (dj (ax z.a y.g) y.h w) x.a.d _).bind (e3 (dj (ax z.a y.g) y.h w)<|fa x.a.b)=Q s from hm;obtain⟨_,h2,kg,h4,hz⟩:=lT kd;obtain⟨kf,h3,kn,h5,h0⟩:=lT ke;have hj:=a.b.2.2;rw[show(fb (ax z.a y.g) y.h w y.c).2=kb.a++[kg]from h4]at hj;obtain⟨kh,v,hx,hg,h6⟩:=hj.g;rw[h5]at hg;obtain⟨g,hk,rfl,i,h8⟩:=hg.g;have h7:=a.c.e a.a h6<|hz λp h1=>hd p<|kf p h1;have h9:=a.c.e a.a h8<|h0 hd;have hn:=b9 cd.a<|cx hc;have ho:=b9 cd.b<|cx hc;show ca z ((eH y).bind _);rw[sq hx];show ca z ((iN {y with a:=g++[hk]}).bind _);rcases Lz (z:={y with a:=g++[hk]}) J h9 with h|⟨f,e,h,l,hy⟩;·rw[h];exact a.e (fE 8 L) J J J J J J
 ·rw[h];show ca z ((z.g[f]?).bind λe=>if j<e.b.length then Q (Z,aV {z with g:=z.g.set f {e with b:=e.b.set j v}} {y with a:=g})else Z);rw[l];have r:=SL a.a hq hs ht hv he l<|hr▸hy;have hf:=a.a.e f e l;obtain⟨ko,ka,_⟩:=hf.2.2.h r;show ca z (if j<e.b.length then _ else _);rw[aC (bc.1 ka).1];have hh:=(bc.1 l).1;have k:cq z {z with g:=z.g.set f {e with b:=e.b.set j v}}:=⟨⟨λha g i=>⟨g,i,lz.b g⟩,λo g i=>by by_cases m:f=o;(·subst m;rw[l]at i;cases i;exists _,ur hh);·exact⟨g,(zC m).trans i,J⟩,bd _,λu ha h=>h,λp h=>h,J⟩,bd _,J⟩;(have hw:=a.a.g k.tofj J J J λo hl n=>by by_cases m:f=o;(·subst m;rw[show({z with g:=z.g.set f {e with b:=e.b.set j v}}:ag).g=z.g.set f {e with b:=e.b.set j v}from rfl,ur hh]at n;cases n;have q:=hf.a k.tofj a.a.a;exists q.1,q.2.1;have:=q.2.2.i (j:=j)<|bu.a k.tofj a.a.a (o:=hb.c)<|hu▸h7;rw[show(c5 z.a e.a).set j hb.c=c5 z.a e.a from qR λkc=>by by_cases hi:j=kc;(·subst hi;rw[ur (bc.1 r).1,r]);·rw[zC hi]]at this;exact this);·rw[show({z with g:=z.g.set f {e with b:=e.b.set j v}}:ag).g=z.g.set f {e with b:=e.b.set j v}from rfl,zC m]at n;exact(a.a.e o hl n).a k.tofj a.a.a);refine a.d hw k J ?_ ?_<|hp J;(·rw[show t.1=s.b from ho.symm,h3,h2];exact a.b.2.1);·rw[show t.2=s.a from hn.symm];exact i.c λ_ _=>bu.a k.tofj a.a.a
def aeC(b:cr z y w x)(c:ad x.b=18){a j}(d:qg z x (.c a j)):ca z (dP u z y 18<|.c a j):=by let⟨q,e,r,s,t,l,f,g,m,h⟩:=d;rw[c]at h;let k:x.a.d.a≠0:=g▸Sj b.a f;let⟨e,i,n⟩:=(Ll b.a (jZ b.a.a l).2 f m).1 h;let⟨v,o,p⟩:=(b.a.k a e i).h n;show ca z ((z.a[a]?).bind λa=>(a.a[j]?).bind λv=>ep z y v);rw[i];show ca z ((e.a[j]?).bind λv=>ep z y v);rw[o];exact b.l c J (Sv k) J b.a (cq.o z) J<|g▸p
def aeD(a:cr z y w x)(c:x.b.toNat=19){b j}(d:qg z x (.c b j)):ca z (dP u z y 19<|.c b j):=by
 obtain⟨h2,i,o,h5,h6,hh,hi,hj,hk,q⟩:=d;rw[c]at q;obtain⟨l,⟨h3,h0,k,h4,h1,hb,p,he⟩,_,hf⟩:=a.f c;obtain⟨_,hq,hz,ht,ho⟩:=lT<|show e3 (dj (ax z.a y.g) y.h w) x.a.d _=Q k from hb;have h:=a.b.2.2;rw[show(fb (ax z.a y.g) y.h w y.c).2=k.a++[hz]from ht]at h;obtain⟨ha,v,hn,hm,hu⟩:=h.g;have h7:=a.c.e a.a hu<|ho he;have hc:=b9 cd.a<|cx p;have hd:=b9 cd.b<|cx p;obtain⟨e,m,n⟩:=(Ll a.a (jZ a.a.a hh).2 hi hk).1 q;have t:=a.a.k b e m;obtain⟨h8,hv,_⟩:=t.h n;show ca z ((eH y).bind _);rw[sq hn];show ca z ((z.a[b]?).bind λe=>if j<e.a.length then Q (Z,hN (aV z {y with a:=ha}) b λe=>{e with a:=e.a.set j v})else Z);rw[m];show ca z (if j<e.a.length then _ else _);rw[aC (bc.1 hv).1];obtain⟨hl,r⟩:=a.a.m (q:=λe=>{e with a:=e.a.set j v}) (λ_=>⟨J,J,J,J,J,J⟩) (λ_ hg=>hg) (λg f h=>a.a.n b g f h) (λg f=>by rw[m]at f;cases f;have:=t.i (j:=j) (show bu z v o.c by rwa[hj]);rwa[show e.h.set j o.c=e.h from qR λhy=>by by_cases s:j=hy;(·subst s;rw[ur (bc.1 n).1,n]);·rw[zC s]]at this) (λg i hx hw l f hp hs=>a.a.h b i hx g hw l f hp hs)<|λg i w f hr=>a.a.l b i g w f hr;refine a.d hl r J ?_ ?_<|hf J;·rw[show l.1=k.b from hd.symm,hq];exact a.b.2.1
 ·rw[show l.2=k.a from hc.symm];exact hm.c λ_ _=>bu.a r.tofj a.a.a
end
section
variable{z:ag}{y:bV}{w:cK}{x:c3}{u:a8}
def ss{a b}:fM a b=K↔a.i=b.i/\a.a=b.a/\a.d=b.d:=by let l:yM a.d b.d=K↔a.d=b.d:=⟨λc=>aa3 λm=>(by rw[MQ m]at c;cases c),VB⟩;rw[fM];rw[cQ,cQ,cQ,ts,ts,dc,l];constructor;rintro⟨⟨g,d,f⟩,i⟩;refine⟨g,?_,i⟩;cases j:a.a;cases k:b.a;rw[j,k]at d f;exact congr (b9 a7.mk d) f;rintro⟨h,e,n⟩;exists⟨h,e▸J,e▸J⟩
def Ga(f:bj z){a b c d e}(g:(ax z.a a).a[b]?=Q c)(i:pz z a)(h:bg (bu z) d (jr<|dj (ax z.a a) b c))(j:∀l,e=Q l->l<Y z.a/\c.a.a=0):bj (ga z a b d e)/\cq z (ga z a b d e)/\∃o,(ga z a b d e).b=o::z.b/\∀k,bj k->cq z k->∀r,fh k r c.a->jb k (o::r):=by
 let⟨t,u⟩:=f.b (y:=ga z a b d e) J J J J J;refine⟨t,u,_,J,λs q n m k=>?_⟩;let y:=wn f c<|bl g;let p:=Gg (c:=ax z.a a) (j:=b) y;let x:cu z.a a b=c:=by rw[cu];rw[g];rfl
 let v:eZ z ⟨a,b,0,0,(d++e8 (ad (cu z.a a b).b-Y d) ih.a).take<|ad (cu z.a a b).b,[],e,Z⟩ c:=⟨g,i,j⟩;let g:Y d<=ad c.b:=h.d▸p.c;let m:=v.a n.tofj f.a;refine⟨c,m,⟨p.a,?_⟩,k,nofun⟩;let e:=(m.i q).a;let w:bg (bu s) ((d++e8 (ad (cu z.a a b).b-Y d) ih.a).take<|ad (cu z.a a b).b) (em (dj (ax s.a a) b c)<|ad c.b):=by rw[x,gT (by rw[bJ,xK];omega),h.d,(n.a i.1.1).2.2.1];rw[em];exact(h.c λ_ _=>bu.a n.tofj f.a).e<|bg.o<|bu.l J
 exact m.f q w .b e
def R3(a:cr z y w x){c e:Nat}{f:cK}{b d:W ih}{g:W a7}{h:qf}(l:(ax z.a c).a[e]?=Q f)(n:pz z c)(i:y.a=b++d)(j:bg (bu z) d (jr<|dj (ax z.a c) e f))(m:bg (bu z) b g)(o:bg (bu z) y.f h.1)(p:h.2=if f.a.a=0 then g else g++[f.a])(k:y.c+1<Y w.c/\fZ (iL<|ax z.a y.g) (ax z.a y.g) h.1 h.2 (fb (ax z.a y.g) y.h w<|y.c+1)):ca z (lA u z y c e):=by
 rw[lA];split;exact a.e (fE 13 L) J J J J J J;let q:cu z.a c e=f:=by rw[cu];rw[l];rfl
 let r:lX (cu z.a c e)=Y d:=by rw[j.d,q,Jk];rw[lX,lh];show _=bif f.g then _ else _;cases f.g<;>rfl
 let f:tw y (lX<|cu z.a c e)=Q (d,{y with a:=b}):=by rw[r];rw[tw];let s:Y y.a=Y b+Y d:=i▸bJ▸J;rw[aC L,show Y y.a-Y d=Y b by omega,i];simp
 rw[f];show ca z (Q (Z,ga (aV z {y with a:=b}) c e d Z));let⟨v,q⟩:=a.a.b (y:=aV z {y with a:=b}) J J J J J;let⟨t,s,e,c,d⟩:=Ga v (e:=Z) l (n.a q.tofj a.a.a) (j.c λ_ _=>bu.a q.tofj a.a.a) nofun;exists _,_,J,t,q.n s;rw[c];let r:=q.n s;refine d _ t s _ ⟨w,(⟨a.c.b,a.c.d,a.c.g⟩:eZ z {y with a:=b} w).a r.tofj a.a.a,a.m,uI.a r.tofj a.a.a a.c.c ⟨a.b.1,a.b.2.1⟩,Ae.a r.tofj a.a.a a.c.c (y:={y with a:=b}) ?_,fh.a r.tofj a.a.a a.o⟩;exists by show y.d<_;rw[a.nd];exact k.1,h.1,g,o,m;rw[<-p];show fZ _ _ _ _ (fb _ _ w y.d);rw[a.nd];exact k.2
def Su{d b c}(a:(bif(!(ao x.a.d.a 0))then eE d x.a.d b else Q b)=Q c):c.b=b.b/\c.a=if x.a.d.a=0 then b.a else b.a++[x.a.d]:=by cases e:ao x.a.d.a 0 with|true=>rw[e]at a;cases a;rw[aC<|dc.1 e];exists J|false=>rw[e]at a;rw[ak λf=>by rw[dc.2 f]at e;cases e];exact⟨(ml a).2.1,(ml a).2.2⟩
def aeF(a:cr z y w x)(c:x.b.toNat=21){b d}(e:qg z x (.d b d))(f:eO z.a b=.b):ca z (dP u z y 21<|.d b d):=by
 obtain⟨hp,l,ht,hu,ha,hb,hc,h⟩:=e;rw[c]at h;have j:=(jZ a.a.a ha).2;obtain⟨n,i⟩:=a1 j;have hf:=Dn a.a j f b<|fv i▸(a.a.a.a b n i).1;obtain⟨hq,p,q⟩:=ss.1 hc;obtain⟨m,⟨hr,hn,g,hs,ho,r,s,t⟩,_,v⟩:=a.f c;obtain⟨_,hh,hl,hi,hg⟩:=yp<|show fU (dj (ax z.a y.g) y.h w) x.a.a _=Q g from r;have k:=a.b.2.2;rw[show(fb (ax z.a y.g) y.h w y.c).2=g.a++hl from hi]at k;obtain⟨hm,o,he,hd,hv⟩:=LB a.a a.c k<|hg t;obtain⟨hj,hk⟩:=Su s;refine R3 a hb hf he ?_ hd ?_ ?_<|v J;·rw[jr];show bg (bu z) o (bif l.g then l.d else _);rwa[h,q]
 ·rw[show m.1=g.b from hj,hh];exact a.b.2.1
 ·rw[show m.2=_ from hk,p];rfl
def Td{a}(b:el a):∀{l r j e},bY a l=r++e::j->bY a e=e::j:=by intro m;induction m using vO with|_ g q=>intro s x w c;cases d:a[g]? with|none=>rw[bY]at c;rw[d]at c;simp at c|some k=>let⟨z,i,n⟩:=b.c g k d;let f:=c;rw[fv d,i]at f;cases s with|nil=>cases f;rw[fv d,i]|cons y t=>let h:=(Fx f).2;rcases n with⟨rfl,_⟩|⟨u,v,p,o,rfl⟩;cases t<;>cases h;exact q u o<|fv p▸h
def Gj{a c b}(d:iM a c=Q b):∃f,a.a[b]?=Q f/\fM f c=K/\∀j,j<b->∀g,a.a[j]?=Q g->fM g c=N:=by rw[iM]at d;let⟨h,i,k⟩:=xG.1 d;refine⟨a.a[b],e7 h,i,λj m p n=>?_⟩;let e:=k j m;let⟨o,l⟩:=bc.1 n;rw[l]at e;simpa using e
def SN{b c a}(e:a∈b.a)(d:fM a c=K):∃g,iM b c=Q g:=by rw[iM];cases f:b.a.findIdx? λa=>fM a c with|some h=>exists h|none=>rw[aay]at f;have:=f a e;rw[d]at this;cases this
def S3{a b}(c:fM a b=K):fM b a=K:=let⟨d,e,f⟩:=ss.1 c;ss.2 ⟨d.symm,e.symm,f.symm⟩
def aeo{a b c}(d:fM a b=K)(e:fM b c=K):fM a c=K:=let⟨i,j,k⟩:=ss.1 d;let⟨f,g,h⟩:=ss.1 e;ss.2 ⟨i.trans f,j.trans g,k.trans h⟩
def adP(d:bj z){c b f:Nat}{a}(h:dF z c)(g:b∈bY z.a c)(e:(ax z.a b).a[f]?=Q a):∃i l j,lB z.a c a=Q (i,l)/\i∈bY z.a c/\(ax z.a i).a[l]?=Q j/\fM j a=K/\j.g=a.g:=by have v:=bl e;let⟨s,u⟩:=SN v (ss.2 ⟨J,J,J⟩:fM a a=K);cases n:lB z.a c a with|none=>rw[lB]at n;rw[List.findSome?_eq_none_iff]at n;have:=n b g;rw[u]at this;cases this|some o=>let⟨i,l⟩:=o;rw[lB]at n;let⟨w,q,x,o,k,p⟩:=JT.1 n;let⟨t,m,n⟩:=b3.1 k;cases n;let⟨j,k,q,r⟩:=Gj m;exists i,l,j,J,by rw[o];simp,k,q;rw[o]at g;have w:=bl k;have s:=Gb d w;rcases dl.1 g with m|m;have:=p b m;rw[u]at this;cases this;rcases cB.1 m with rfl|m;rcases J5 f l with p|rfl|p;have:=r f p a e;rw[ss.2 ⟨J,J,J⟩]at this;cases this;rw[e]at k;cases k;rfl;have y:=(jZ d.a (by rw[o];simp:b∈bY z.a c)).2;let⟨r,t⟩:=a1 y;have c:=(d.a.d b r s t).2.1;(have x:ax z.a b=r.c:=by rw[ax];rw[t]);rw[x]at e k;have:=(c.2.2.2.2 f (bc.1 e).1 a e).2 l p j k;rw[q]at this;cases this;have f:=Td d.a o;have e:dF z i:=h.b d.a (by rw[o];simp);exact(d.nb i e s j w b (f▸m) a v<|S3 q).symm
def aeE(a:cr z y w x)(d:x.b.toNat=20){b c}(e:qg z x (.d b c)):ca z (dP u z y 20<|.d b c):=by
 obtain⟨kp,hh,ho,hp,hq,q,hr,r⟩:=e;rw[d]at r;obtain⟨kq,hk,n⟩:=ss.1 hr;have hc:cu z.a b c=hh:=by rw[cu];rw[q];rfl
 obtain⟨hi,⟨kr,kn,hg,ks,ko,hl,hm,p⟩,_,hn⟩:=a.f d;obtain⟨kc,kf,kg⟩:=ay.1<|show(fU (dj (ax z.a y.g) y.h w) x.a.a _).bind (e3 (dj (ax z.a y.g) y.h w)<|fa x.a.b)=Q hg from hl;obtain⟨_,h1,kh,h4,hx⟩:=yp kf;obtain⟨kk,h2,kv,h8,hy⟩:=lT kg;have he:=a.b.2.2;rw[show(fb (ax z.a y.g) y.h w y.c).2=kc.a++kh from h4]at he;obtain⟨km,h,ha,t,hb⟩:=LB a.a a.c he<|hx λo hz=>p o<|kk o hz;rw[h8]at t;obtain⟨kl,v,rfl,hs,ka⟩:=t.g;have kb:=a.c.e a.a ka<|hy p;obtain⟨kd,ke⟩:=Su hm;have hu:h.length=hh.d.length:=by rw[hb.d,n];rfl
 show ca z ((y.a.reverse[(cu z.a b c).d.length]?).bind _);have h6:y.a.reverse[(cu z.a b c).d.length]?=Q v:=by rw[hc,ha,List.reverse_append,md (by rw[asL];omega)];simp[hu]
 rw[h6];rcases kb.e J with rfl|⟨g,l,rfl,k,ht⟩;·exact a.e (fE 8 L) J J J J J J
 ·show ca z (match lB z.a (eV z g) (cu z.a b c)with|Q (f,hf)=>lA u z y f hf|Z=>Z);rw[show eV z g=l.a by rw[eV];rw[k],hc];have i:=a.a.e g l k;have hv:=i.1.c a.a.a ho<|hp▸ht;obtain⟨kt,h3⟩:=(Te a.a.a hv).2.2;have hw:b∈bY z.a l.a:=h3▸bo _ hq;obtain⟨f,hf,m,h0,j,hd,h7,h9⟩:=adP a.a i.1 hw q;rw[h0];obtain⟨ku,ki,kj⟩:=ss.1 h7;have h5:=i.1.b a.a.a j;refine R3 a (d:=.c g::h) hd (i.2.1 f j) (by rw[ha,hG];rfl) ?_ hs ?_ ?_<|hn J;(·rw[jr];show bg (bu z) (.c g::h) (bif m.g then m.d else fa (ax z.a f).d::m.d);rw[h9,r,kj,n];refine .a (bu.d k<|fO.2 ⟨f,j,iy ?_⟩) hb;obtain⟨hj,s⟩:=a1 h5.1;have:=(a.a.a.d f hj (Gb a.a<|bl hd) s).1;rw[bW,ax];rwa[s]);(·rw[show hi.1=hg.b from kd,h2,h1];exact a.b.2.1);·rw[show hi.2=_ from ke,ki,hk];rfl
def Tg(c:cr z y w x){h g}(a:eM (ad x.b)=Q h)(d:qg z x g)(b:RL (ad x.b) g)(e:ad x.b=25\/ad x.b=26->lU y=Q N)(f:qj (ad x.b)=K->∀m,jD g=Q m->eO z.a m=.b):ca z (dP u z y (ad x.b) g):=by cases g with|a v=>exact c.e d J J J J J J|b n=>generalize k:(ad x.b)=r at a e f⊢;unfold eM at a;(split at a<;>cases a<;>first|exact aez c k d<|f J n J|exact aeG c k d<|e<|.inl J|exact aeH c k<|e<|.inr J|(rw[k]at b;cases b))|c p j=>generalize i:(ad x.b)=s at a e f⊢;unfold eM at a;(split at a<;>cases a<;>first|exact aeA c i d|exact aeB c i d|exact aeC c i d|exact aeD c i d|(rw[i]at b;rcases b with b|b<;>cases b))|d o q=>generalize l:(ad x.b)=t at a e f⊢;unfold eM at a;split at a<;>cases a<;>first|exact aeE c l d|exact aeF c l d<|f J o J|(rw[l]at b;rcases b with b|b<;>cases b)
end
def mR{b a c}:∀h:W (ac×dx),b5 (eu h b c) a=if b=a then Q c else b5 h a|[]=>by unfold eu b5;rw[uq];by_cases d:b=a;rw[aC d];simp[d];rw[ak d];simp[d]|(j,v)::l=>by let g:=mR (b:=b) (a:=a) (c:=c) l;rw[eu];split;(next i=>subst i;unfold b5;rw[uq,uq];by_cases e:j=a;simp[e];simp[e]);next k=>unfold b5 at g⊢;rw[uq,uq];by_cases f:j=a;subst f;simp[Ne.symm k];simpa[f]using g
section
variable{z:ag}{y:a8}
structure uJ(z:ag)(l:List a7)(j:List i5)(g:dg):Prop where
 a:Y g.e=Y j
 e:∀(k:Nat)h,j[k]?=Q h->∃i,g.e[k]?=Q i/\(h.a=K->g.h[i]?=Q h.c)/\(h.a=N->g.f[i]?=Q h.c)
 b:∃m,g.f=l++m
 f:bg (bu z) g.a g.h
def uJ.d{k i h}(g:uJ z k i h)(j:i5):uJ z k (i++[j]) (gY h j):=by
 unfold gY;split;next t=>refine⟨by simp[g.a],λp k l=>?_,g.b,g.f.f RY⟩;rcases dy p (Y i)with n|n;rw[gh n]at l;let⟨s,m,u,o⟩:=g.e p k l;refine⟨s,(gh (by rw[g.a];exact n)).trans m,λr=>?_,o⟩;exact(gh (bc.1<|u r).1).trans<|u r;rw[md n]at l;cases w:p-Y i with|succ x=>rw[w]at l;cases l|zero=>rw[w]at l;cases l;(let q:p=Y h.e:=by rw[g.a];omega);exact⟨Y h.h,by rw[q];simp,λ_=>az,λs=>by rw[t]at s;cases s⟩
 next r=>let⟨v,p⟩:=g.b;refine⟨by simp[g.a],λq l m=>?_,⟨v++[j.c],by rw[<-hG,<-p]⟩,g.f⟩;rcases dy q (Y i)with o|o;rw[gh o]at m;let⟨u,j,n,v⟩:=g.e q l m;refine⟨u,(gh (by rw[g.a];exact o)).trans j,n,λt=>?_⟩;exact(gh (bc.1<|v t).1).trans<|v t;rw[md o]at m;cases x:q-Y i with|succ w=>rw[x]at m;cases m|zero=>rw[x]at m;cases m;(let i:q=Y h.e:=by rw[g.a];omega);exact⟨Y h.f,by rw[i];simp,λy=>aE y r,λ_=>az⟩
def uJ.c{j}:∀{g i h},uJ z j i h->uJ z j (i++g) (g.foldl gY h)|[],i,h,m=>by rwa[eF]|k::g,i,h,l=>by have:=uJ.c (g:=g)<|l.d k;rwa[hG]at this
def C9:∀(d:W i5)(b:dg),(d.foldl gY b).d=b.d/\(d.foldl gY b).b=b.b/\(d.foldl gY b).c=b.c/\(d.foldl gY b).g=b.g/\(d.foldl gY b).i=b.i|[],_=>Kb|c::g,a=>by let e:=C9 g<|gY a c;(let f:(gY a c).d=a.d/\(gY a c).b=a.b/\(gY a c).c=a.c/\(gY a c).g=a.g/\(gY a c).i=a.i:=by rw[gY];split<;>exists J,J,J,J);exact⟨e.1.trans f.1,e.2.1.trans f.2.1,e.2.2.1.trans f.2.2.1,e.2.2.2.1.trans f.2.2.2.1,e.2.2.2.2.trans f.2.2.2.2⟩
def fl(z:ag)(b:dM)(a:Nat):ag:={z with a:=z.a++[ij b (Y z.a) (bY z.a a)<|c5 z.a a]}
def ym{c b j a}(d:(fl z c b).a[j]?=Q a):z.a[j]?=Q a\/(j=Y z.a/\a=ij c (Y z.a) (bY z.a b) (c5 z.a b)):=by let e:(z.a++[_])[j]?=Q a:=d;rcases dy j (Y z.a)with f|f;rw[gh f]at e;exact .inl e;rw[md f]at e;cases g:j-Y z.a with|succ h=>rw[g]at e;cases e|zero=>rw[g]at e;cases e;exact .inr ⟨L,J⟩
def SQ(c:bj z){b:dM}{a:Nat}(d:dF z a)(f:gv b)(e:bW z.a a=b.b):bj (fl z b a)/\fj z (fl z b a)/\bH (fl z b a)=bH z+1/\bY (fl z b a).a (Y z.a)=Y z.a::bY z.a a/\bW (fl z b a).a (Y z.a)=b.d/\ax (fl z b a).a (Y z.a)=b:=by
 have k:=c.a;have h7:=C9 b.c ⟨b.d,Y z.a::bY z.a a,b,.c,[],c5 z.a a,[],b.a.map λo=>o.c.map λ_=>Z,[]⟩;have hj:uJ z (c5 z.a a) b.c (ij b (Y z.a) (bY z.a a)<|c5 z.a a):=by have:=uJ.c (z:=z) (j:=c5 z.a a) (g:=b.c) (i:=[]) (h:=⟨b.d,Y z.a::bY z.a a,b,.c,[],c5 z.a a,[],b.a.map λo=>o.c.map λ_=>Z,[]⟩) ⟨J,λq hp g=>by simp at g,⟨[],az⟩,.b⟩;exact this
 have hc:(fl z b a).a[(Y z.a)]?=Q (ij b (Y z.a) (bY z.a a)<|c5 z.a a):=by show(z.a++[_])[(Y z.a)]?=_;simp
 generalize hq:ij b (Y z.a) (bY z.a a) (c5 z.a a)=u at hj hc;have h8:u.d=b.d/\u.b=Y z.a::bY z.a a/\u.c=b/\u.g=.c/\u.i=b.a.map λo=>o.c.map λ_=>Z:=hq▸h7;let⟨kd,hl,hg,h3,h4⟩:=h8;have hk:∀{j:Nat}{h:dg},z.a[j]?=Q h->(fl z b a).a[j]?=Q h:=λ{j h}g=>(gh (bc.1 g).1).trans g;have r:∀{j:Nat}{h:dg},(fl z b a).a[j]?=Q h->z.a[j]?=Q h\/(j=Y z.a/\h=u):=λg=>hq▸ym g;have i:fj z (fl z b a):=⟨λl h g=>⟨h,hk g,lz.b h⟩,λhm h g=>⟨h,g,J⟩,bd _,λy l m=>m,λh0 m=>m,J⟩;let⟨hn,x⟩:=a1 d.1;have hx:=fv x;have ki:17<=Y z.a:=by let⟨h,_,v,_⟩:=k.b 16 L;have:=(bc.1 v).1;omega
 have h1:el (fl z b a).a:=by refine⟨λj h g=>?_,λq hu=>?_,λj h ht g=>?_,λj h g q hp hs=>?_,λj h g m n=>?_⟩;rcases r g with g|⟨rfl,rfl⟩;let⟨hz,p,s⟩:=k.c j h g;exact⟨hz,p,s.imp id λ⟨hh,ha,hw,h9,kb⟩=>⟨hh,ha,hk hw,h9,kb⟩⟩;exact⟨bY z.a a,hl,.inr ⟨a,hn,hk x,d.1,hx⟩⟩;let⟨h,ha,v,hr,p⟩:=k.b q hu;exists h,ha,hk v,hr;rcases r g with g|⟨rfl,rfl⟩;let⟨p,s,hh,hi,h5⟩:=k.d j h ht g;exact⟨p,s,hh,hi,(i.a ((k.a j h g).2.2 hh hi).1).2.1▸h5⟩;refine⟨kd▸hg▸J,hg▸f,a,?_,(i.a d.1).2.1▸hg▸e⟩;rw[hl,hx];exact .tail _ (k.a a hn x).1;rcases r g with g|⟨rfl,rfl⟩;exact k.f j h g q hp hs;rw[hg]at hs;exact hj.e q hp hs;rcases r g with g|⟨rfl,rfl⟩;let⟨hy,hd⟩:=k.e j h g m n;exact⟨hy,(i.a ((k.a j h g).2.2 m n).1).2.2.2▸hd⟩;rw[hl]at n;let⟨hy,hd⟩:=hj.b;rcases cB.1 n with rfl|n;exact⟨[],by rw[eF];rw[c5];rw[hc]⟩;rw[hx]at n;let⟨kh,he⟩:=k.e a hn x m n;exists kh++hy;rw[(i.a ((k.a a hn x).2.2 m n).1).2.2.2,hd,<-hG,<-he];rw[c5];rw[x]
 have ka:∀{l},dF (fl z b a) l->dF z l:=λ{l}g=>by rcases dy l (Y z.a)with t|t;exact⟨t,λm n=>by have:=g.2 m<|(i.a t).1▸n;rwa[(i.a (jZ k n).2).2.1]at this⟩;have p:=g.2 l (by let⟨h,v⟩:=a1 g.1;rw[fv v];exact(h1.a l h v).1);exact aE (c.d _ l p).1.1 L
 refine⟨⟨h1,λkf l m=>?_,c.na,λq hu=>?_,λh0 h6 ho hb=>?_,λj h g hf m n=>?_,λj h g=>?_,λhm ha hr=>(c.e hm ha hr).a i k,λj q kg h ke hz g t hv=>?_,λj q h o g w=>?_,λj hd ht o w ho hb hm h2 hf=>?_⟩,i,?_,?_,?_,?_⟩;let⟨p,s⟩:=c.d kf l m;exact⟨p.a i k,(i.a p.1).2.1▸s⟩;rw[(i.a L).2.1];exact c.f q hu;exact i.below k<|c.o h0 h6 ho hb;rcases r g with g|⟨rfl,rfl⟩;rw[(i.a (bc.1 g).1).1]at n;exact(c.n j h g hf m n).a i k;rw[h3]at hf;cases hf;rcases r g with g|⟨rfl,rfl⟩;exact(c.k j h g).c λ_ _=>bu.a i k;exact hj.f.c λ_ _=>bu.a i k;rcases r g with g|⟨rfl,rfl⟩;let⟨o,kc,p,s,hi⟩:=c.h j q kg h ke hz g t hv;exact⟨o,kc,p,s,hi.a i k⟩;rw[h4,cv]at t;obtain⟨o,_,rfl⟩:=b3.1 t;rw[cv]at hv;let⟨hh,_,hw⟩:=b3.1 hv;cases hw;rcases r g with g|⟨rfl,rfl⟩;exact c.l j q h o g w;rw[hg]at w;exact⟨o.c.map λ_=>Z,by rw[h4,cv,w];rfl,az⟩;have he:=ka hd;rw[(i.a he.1).2.2.1]at w;rw[(i.a he.1).1]at hb;rw[(i.a (jZ k<|asP hb).2).2.2.1]at h2;exact c.nb j he ht o w ho hb hm h2 hf;rw[bH];show _+Y ((z.a++[ij b (Y z.a) (bY z.a a)<|c5 z.a a]).filter _)=_;rw[hq,Fy,bJ];have:Y ([u].filter λl=>cj<|l.g=.c)=1:=by simp[h3]
 rw[this,<-P3];rfl;rw[fv hc,hl];rw[bW];rwa[hc];rw[ax];rwa[hc]
def dG(z:ag)(a:ac)(b:dx):ag:={z with d:=eu z.d a b}
def Dj(c:bj z){a b}(e:∀j,b5 z.d a≠Q (.b j))(d:(∃h,b=.a h/\qe h)\/∃k,b=.b k/\k<Y z.a/\bW z.a k=a/\(∀h∈(bY z.a k).tail,b5 z.d (bW z.a h)=Q (.b h))/\(∀j∈z.h,j.b=a->dC z.a k j.a=K)/\∀f∈(ax z.a k).a,∀n∈(bY z.a k).tail,∀g∈(ax z.a n).a,fM g f=K->g.g=f.g):bj (dG z a b)/\cq z (dG z a b):=by
 have h:=c.a;have j:∀g,b5 (dG z a b).d g=if a=g then Q b else b5 z.d g:=λr=>mR z.d;have v:bH (dG z a b)<=bH z:=by rw[bH];refine Nat.add_le_add_right ?_ _;(have:∀x:W (ac×ac),Y (x.filter λr=>(b5 (dG z a b).d r.1).isNone)<=Y (x.filter λt=>(b5 z.d t.1).isNone):=λf=>by induction f with|nil=>exact bd _|cons w g f=>rw[i2,i2,j];by_cases p:a=w.1;rw[aC p];split;(next p=>cases p);split;simp;omega;exact f;rw[ak p];split;simpa using f;exact f);exact this z.m
 have g:cq z (dG z a b):=⟨⟨λk i y=>⟨i,y,lz.b i⟩,λn k f=>⟨k,f,J⟩,bd _,λs m i=>by rwa[j,ak λi=>e m (by rwa[i])],λl x=>x,J⟩,v,J⟩;have x:∀e,b=.b e->dF (dG z a b) e/\bW z.a e=a:=λt n=>by subst n;rcases d with⟨u,w,_⟩|⟨q,w,n,o,p,_⟩;cases w;cases w;refine⟨⟨n,λl k=>?_⟩,o⟩;let⟨i,q⟩:=a1 n;let⟨m,r,_⟩:=h.c t i q;have y:bY z.a t=t::m:=fv q▸r▸J;have s:l∈bY z.a t:=k;rw[y]at s p;rcases cB.1 s with rfl|m;rw[j];exact aC o.symm;exact g.c _ _<|p l m
 have hc:∀v,dF (dG z a b) v->(b=.b v)\/dF z v:=λl u=>by have q:=u.2 l (by let⟨a,r⟩:=a1<|show l<Y z.a from u.1;show l∈bY z.a l;rw[fv r];exact(h.a l a r).1);rw[j]at q;split at q;exact .inl<|cx q;exact .inr (c.d _ l q).1
 refine⟨⟨h,λb i f=>?_,λb k f=>?_,λa hd=>?_,λm t n r=>?_,λu o e w f q=>(c.n u o e w f q).a g.tofj h,λv p l=>(c.k v p l).c λ_ _=>bu.a g.tofj h,λe s u=>(c.e e s u).a g.tofj h,λi y hi q hh k hb he hf=>?_,c.l,λi hg ha u v n r l w e=>?_⟩,g⟩;rw[j]at f;split at f;next o=>let⟨s,p⟩:=x i<|cx f;exact⟨s,p.trans o⟩
 let⟨x,o⟩:=c.d b i f;exists x.a g.tofj h;rw[j]at f;split at f;cases f;exact d.elim .inr λ⟨a,p,_⟩=>.inl ⟨a,p⟩;exact c.na b k f;exact g.c _ _<|c.f a hd;have s:=uS.1 r;rw[j]at s;split at s;next b=>have o:=cx s;rcases d with⟨j,x,_⟩|⟨y,x,_,_,_,a,_⟩;rw[x]at o;cases o;rw[x]at o;cases o;exact a m t b.symm
 exact c.o m t n<|uS.2 s;let⟨u,t,a,b,j⟩:=c.h i y hi q hh k hb he hf;exact⟨u,t,a,b,j.a g.tofj h⟩;rcases hc i hg with m|m;rcases d with⟨b,y,_⟩|⟨h,y,_,_,_,_,g⟩;rw[y]at m;cases m;rw[y]at m;cases m;exact g u v n r l w e;exact c.nb i m ha u v n r l w e
end
section
variable{z:ag}{x:a8}{y:cK}
def adW{c e b j}(f:DO c.a)(a:c.a[j]?=Q b)(d:fM b e=K):iM c e=Q j:=by let⟨i,h⟩:=SN (bl a) d;let⟨n,k,l,m⟩:=Gj h;rcases J5 i j with g|rfl|g;have:=(f.2 j (bc.1 a).1 b a).2 i g n k;rw[aeo l<|S3 d]at this;cases this;exact h;have:=m j g b a;rw[d]at this;cases this
def adw(b:bj z)(a:Nat):DO (ax z.a a).a:=by rw[ax];cases g:z.a[a]? with|none=>exact⟨J,nofun⟩|some e=>rcases dy a 17 with c|c;let⟨i,j,f,d,_,_,h,_⟩:=b.a.b a c;rw[g]at f;cases f;rw[e0]at d;rw[cv,sd c]at d;cases d;show DO e.c.a;rw[h];exact⟨J,nofun⟩;exact(b.a.d a e c g).2.1.2.2.2
def adv(d:bj z){c:dM}{a}(b:c.a.any (uO z.a a)=N):∀y∈c.a,∀l∈bY z.a a,∀k∈(ax z.a l).a,fM k y=K->k.g=y.g:=by
 intro y q e p v r s;let⟨j,i⟩:=iI.1 r;let f:uO z.a a y=N:=by cases n:uO z.a a y with|false=>rfl|true=>rw[fO.2 ⟨y,q,n⟩]at b;cases b
 let g:(match iM (ax z.a e) y with|Q t=>!((cu z.a e t).g==y.g)|Z=>N)=N:=by cases o:(match iM (ax z.a e) y with|Q u=>!((cu z.a e u).g==y.g)|Z=>N)with|false=>rfl|true=>rw[uO]at f;rw[fO.2 ⟨e,p,o⟩]at f;cases f
 rw[adW (adw d e) i s]at g;let h:((cu z.a e j).g==y.g)=K:=by simpa using g
 let m:cu z.a e j=v:=by rw[cu];rw[i];rfl
 rw[m]at h;exact eq_of_beq h
structure F4(z:ag)(l:ByteArray)(g:dx×ag):Prop where
 a:bj g.2
 c:cq z g.2
 e:(∃h,g.1=.b h)\/∃k,g.1=.a k/\qe k
 d:∀h,g.1=.b h->b5 g.2.d l=Q (.b h)
 f:∀i j,b5 z.d i=Q j->b5 g.2.d i=Q j
 b:g.2.b=z.b/\g.2.e=z.e/\g.2.i=z.i
def Al{a}:(∃e,gK x a=.error e/\qe e)\/∃d,gK x a=.ok d/\gv d/\d.d=a/\∃g∈x.a,g.1=a:=by
 rw[gK];split;next b l=>let m:b∈x.a.filter (λb=>cj<|b.1=a):=l▸.head _;let⟨i,j⟩:=pq.1 m;split;(next f c=>split;(next n=>refine .inr ⟨f,J,?_,n,b,i,ej j⟩;rw[yj]at c;split at c;(next h=>cases c;let⟨_,_,_,k⟩:=CH h;exact k);cases c);exact .inl ⟨_,J,fE 1 L⟩);exact .inl ⟨_,J,fE 1 L⟩
 exact .inl ⟨_,J,fE 0 L⟩
def SF{a b}(d:b5 z.d a=Z)(c:∃m∈z.m,m.1=a):bH (dG z a b)+1<=bH z:=have j:∀i,b5 (dG z a b).d i=if a=i then Q b else b5 z.d i:=λl=>mR z.d;have i:∀l:W (ac×ac),Y (l.filter λn=>(b5 (dG z a b).d n.1).isNone)<=Y (l.filter λo=>(b5 z.d o.1).isNone):=(λf=>by induction f with|nil=>exact bd _|cons p k g=>rw[i2,i2,j];by_cases e:a=p.1;rw[aC e];split;(next e=>cases e);split;simp;omega;exact g;rw[ak e];split;simpa using g;exact g);have e:∀h:W (ac×ac),(∃q∈h,q.1=a)->Y (h.filter λr=>(b5 (dG z a b).d r.1).isNone)+1<=Y (h.filter λs=>(b5 z.d s.1).isNone):=(λg k=>by induction g with|nil=>let⟨_,v,_⟩:=k;cases v|cons t h b=>rw[i2,i2,j];by_cases f:a=t.1;rw[aC f,<-f,d];have:=i h;simpa using this;rw[ak f];let⟨u,w,y⟩:=k;have:=b (by rcases cB.1 w with rfl|x;exact aE y.symm f;exists u,x);split;simpa using this;exact this);have:=e z.m c;df (aaP<|Nat.add_right_comm _ _ _)<|Nat.add_le_add_right this _
def so:∀(p)(b)(z),bj z->z.m=x.a->F4 z b (dN x p b z)|0,b,z,r,_=>⟨r,cq.o z,.inr ⟨_,J,fE 0 L⟩,nofun,λ_ _ k=>k,J,J,J⟩|p+1,b,z,r,u=>by rw[dN];cases v:b5 z.d b with|some h=>exists r,cq.o z,r.na b h v,(λc d=>(show h=.b c from d)▸v),λ_ _ k=>k,J,J|none=>(have o:∀c,b5 z.d b≠Q (.b c):=λc d=>by rw[v]at d;cases d);let⟨w,e⟩:=Dj r o (b:=.a cL)<|.inl ⟨_,J,fE 2 L⟩;let⟨s,n⟩:=w.b (y:=bX (dG z b<|.a cL) 2 0 b) J J J J J;have w:=e.n n;have i:∀g,b5 (bX (dG z b<|.a cL) 2 0 b).d g=if b=g then Q (.a cL)else b5 z.d g:=λg=>mR z.d;have q:=SF (z:=z) (b:=.a cL) v;generalize j:bX (dG z b<|.a cL) 2 0 b=l at s n w i;have f:bX {z with d:=eu z.d b<|.a cL} 2 0 b=l:=j;(have e:l.b=z.b/\l.e=z.e/\l.i=z.i:=by rw[<-j];exists J,J);have hd:(∃d∈z.m,d.1=b)->bH l+1<=bH z:=λk=>j▸q k;simp only;rw[f];(have q:∀(h)(f),bj f->cq z f->(∀g n,b5 l.d g=Q n->b5 f.d g=Q n)->(f.b=z.b/\f.e=z.e/\f.i=z.i)->((∃o,h=.a o/\qe o)\/∃m,h=.b m/\m<Y f.a/\bW f.a m=b/\(∀d∈(bY f.a m).tail,b5 f.d (bW f.a d)=Q (.b d))/\(∀j∈f.h,j.b=b->dC f.a m j.a=K)/\∀y∈(ax f.a m).a,∀r∈(bY f.a m).tail,∀ha∈(ax f.a r).a,fM ha y=K->ha.g=y.g)->F4 z b (h,{f with d:=eu f.d b h}):=λh f hg he t hf a=>by have hh:=t b _ (by rw[i,aC J]);let⟨hb,hc⟩:=Dj hg (a:=b) (b:=h) (λc d=>by rw[hh]at d;cases d) a;refine⟨hb,he.n hc,a.elim .inr λ⟨m,k,_⟩=>.inl ⟨m,k⟩,λc d=>?_,λg n d=>?_,hf⟩;show b5 (eu f.d b h) b=_;rw[mR,aC J];exact b9 Q d;show b5 (eu f.d b h) g=_;(have a:b≠g:=λk=>by rw[<-k,v]at d;cases d);rw[mR,ak a];exact t g n (by rw[i,ak a];exact d));rcases Al (x:=x) (a:=b)with⟨o,a,v⟩|⟨c,a,hg,t,m⟩;rw[a];exact q (.a o) l s w (λ_ _ k=>k) e<|.inl ⟨o,J,v⟩;rw[a];have i:=so p c.b l s<|w.e.trans u;simp only;generalize s:dN x p c.b l=f at i;let⟨h,a⟩:=f;have f:a.b=z.b/\a.e=z.e/\a.i=z.i:=⟨i.b.1.trans e.1,i.b.2.1.trans e.2.1,i.b.2.2.trans e.2.2⟩;rcases i.e with⟨e,s⟩|⟨o,hh,v⟩;have k:=s;subst k;simp only;have s:bj a:=i.a;have hc:cq z a:=w.n i.c;let⟨hf,k⟩:=s.d _ e<|i.d e J;let⟨p,hb,hk,he,hi,hj⟩:=SQ s hf hg k;have k:cq z (fl a c e):=⟨hc.tofj.b hb,by have hc:=hd (by rw[u];exact m);have hd:bH a<=bH l:=i.c.l;omega,f.2.1⟩;have m:∀g n,b5 l.d g=Q n->b5 (fl a c e).d g=Q n:=λg n d=>i.f g n d;have l:bW (fl a c e).a (Y a.a)=b:=hi.trans t;have g:gJ a c e=if c.a.any (uO a.a e)then(.a yh,fl a c e)else if a.h.any (λj=>cj (j.b=(ij c (Y a.a) (bY a.a e)<|c5 a.a e).d)&&!(dC (fl a c e).a (Y a.a) j.a))then(.a uM,fl a c e)else(.b<|Y a.a,fl a c e):=rfl;rw[g];have hg:(ij c (Y a.a) (bY a.a e)<|c5 a.a e).d=b:=(C9 c.c _).1.trans t;(cases hc:c.a.any (uO a.a e)with|true=>exact q (.a yh) _ p k m f<|.inl ⟨_,J,fE 1 L⟩|false=>cases hd:a.h.any (λj=>cj (j.b=(ij c (Y a.a) (bY a.a e)<|c5 a.a e).d)&&!(dC (fl a c e).a (Y a.a) j.a))with|true=>exact q (.a uM) _ p k m f<|.inl ⟨_,J,fE 3 L⟩|false=>refine q (.b<|Y a.a) (fl a c e) p k m f<|.inr ⟨_,J,?_,l,λd u=>?_,λj k n=>?_,λy g r t ha l p=>?_⟩;show Y a.a<Y (a.a++[_]);simp;rw[he]at u;have u:d∈bY a.a e:=u;rw[(hb.a (jZ s.a u).2).2.1];exact hf.2 d u;(cases d:dC (fl a c e).a (Y a.a) j.a with|true=>rfl|false=>have b:=CA.1 hd j k;rw[hg,iy n,d]at b;exact aE J b);rw[hj]at g;rw[he]at t;have t:r∈bY a.a e:=t;rw[(hb.a (jZ s.a t).2).2.2.1]at l;exact adv s hc y g r t ha l p);have c:h=.a o:=hh;subst c;simp only;exact q (.a o) a i.a (w.n i.c) i.f f<|.inl ⟨o,J,v⟩
end
section
variable{z t:ag}{u:a8}{x:bV}{w:cK}{y:c3}
def adz{b c}(a:pe b c=K):b=c:=by rw[pe]at a;rw[cQ]at a;let d:=dc.1 a.1;let e:=ts.1 a.2;cases b;cases c;exact congr (b9 a7.mk d) e
def adK{b c a e g f}(d:wo b c g f=Q (a,e)):a∈bY b c/\∃h,(ax b a).c[e]?=Q h/\h.c=f:=by rw[wo]at d;let⟨q,o,r,n,k,_⟩:=JT.1 d;let⟨p,l,m⟩:=b3.1 k;cases m;let⟨j,i,_⟩:=xG.1 l;exists by rw[n];simp,_,e7 j;rw[cQ]at i;exact adz i.2
def adL{b c a e f}(d:lB b c f=Q (a,e)):a∈bY b c/\∃g,(ax b a).a[e]?=Q g/\fM g f=K:=by rw[lB]at d;let⟨q,n,r,l,i,_⟩:=JT.1 d;let⟨p,j,k⟩:=b3.1 i;cases k;let⟨m,h,o,_⟩:=Gj j;exists by rw[l];simp,m,h
def adI{b a}(c:eM b=Q a):(a=1\/a=2->(a==2)=(b==18||b==19))/\(a=3\/a=4->(a==4)=(b==21))/\a<5:=by unfold eM at c;split at c<;>cases c<;>decide
def adD(f:bj z){a b}(c:eM (ad y.b)=Q b)(d:dF z a)(e:bW z.a a=y.a.b):tr z y (rg z.a a b y.a):=by
 let⟨v,hb,hc⟩:=adI c;let ha:∀h:b=1\/b=2,tr z y (match wo z.a a y.a.c y.a.d with|Q (i,u)=>(match(ax z.a i).c[u]? with|Q x=>if x.a=(b==2)then dx.c i (((z.a[i]?).bind λg=>g.e[u]?).getD 0)else .a sp|Z=>.a sp)|Z=>.a sp):=λp=>by cases l:wo z.a a y.a.c y.a.d with|none=>exists fE 4 L|some w=>let⟨n,h⟩:=w;let⟨r,k,g,o⟩:=adK l;simp only;rw[g];simp only;split;(next u=>let⟨m,l⟩:=a1 (jZ f.a r).2;(let s:m.c.c[h]?=Q k:=by rw[ax]at g;rwa[l]at g);let⟨j,q,_⟩:=f.a.f n m l h k s;let t:((z.a[n]?).bind λi=>i.e[h]?)=Q j:=l▸q;rw[t];exists⟨a,h,k,d,e,r,g,o,t,u.trans<|v p⟩;show eM (ad y.b)=Q 1\/eM (ad y.b)=Q 2;rw[c];exact p.imp (b9 Q)<|b9 Q);exists fE 4 L
 let t:∀f:b=3\/b=4,tr z y (match lB z.a a (qh y.a)with|Q (o,v)=>if(cu z.a o v).g=(b==4)then dx.d o v else .a tu|Z=>.a tu):=λq=>by cases m:lB z.a a (qh y.a)with|none=>exists fE 5 L|some g=>let⟨f,r⟩:=g;let⟨h,w,s,k⟩:=adL m;(let n:cu z.a f r=w:=by rw[cu];rw[s];rfl);simp only;rw[n];split;(next p=>exists⟨a,w,d,e,h,s,k,p.trans<|hb q⟩;show eM (ad y.b)=Q 3\/eM (ad y.b)=Q 4;rw[c];exact q.imp (b9 Q)<|b9 Q);exists fE 5 L
 match b,c,hc,ha,t with|0,c,_,_,_=>exists⟨d,e⟩|1,_,_,a,_=>exact a<|.inl J|2,_,_,b,_=>exact b<|.inr J|3,_,_,_,c=>exact c<|.inl J|4,_,_,_,d=>exact d<|.inr J|a+5,_,e,_,_=>omega
structure RJ(z)(y)(e:dx×ag):Prop where
 a:bj e.2
 b:cq z e.2
 d:tr e.2 y e.1
 c:e.2.b=z.b
def Sl(b:bj z)(c:z.m=u.a){a}(d:eM (ad y.b)=Q a):RJ z y (fk u z a y.a):=by have e:=so 42 y.a.b z b c;rw[fk,et];generalize dN u 42 y.a.b z=m at e;let⟨n,t⟩:=m;rcases e.e with⟨g,f⟩|⟨o,f,l⟩;have h:=f;subst h;let⟨j,k⟩:=e.a.d _ g<|e.d g J;exact⟨e.a,e.c,adD e.a d j k,e.b.1⟩;have i:=f;subst i;exact⟨e.a,e.c,⟨l,C⟩,e.b.1⟩
def adR{d:Type}{c:W (W d)}{e j:Nat}{f:W d->W d}{b:W d}(a:(c.modify e f)[j]?=Q b):(j≠e/\c[j]?=Q b)\/(j=e/\∃g,c[j]?=Q g/\b=f g):=by
 rw[qT]at a;split at a;next i=>subst i;obtain⟨h,m,rfl⟩:=b3.1 a;exact .inr ⟨J,h,m,J⟩
 next k=>(let a:c[j]?=Q b:=by simpa using a);exact .inl ⟨λl=>k l.symm,a⟩
def ael(a:bj z)(c:(ax z.a x.g).a[x.h]?=Q w)(d:w.c[x.c]?=Q y){b}(e:tr z y b):bj (Gm z x b)/\cq z (Gm z x b):=by
 refine a.m (λ_=>Kc) (λ_ q=>q) (λn s e=>a.n x.g n s e) (λo t=>a.k x.g o t) (λg j k l m h u f=>?_)<|λg j n h v=>?_;rcases adR u with⟨_,i⟩|⟨rfl,p,i,rfl⟩;exact a.h x.g j k g l m h i f;by_cases l:x.c=k;subst l;let b:g.c.a[x.h]?=Q w:=by rw[ax]at c;rwa[h]at c
 rw[JV]at f;rw[aC J]at f;split at f;cases f;exists w,y,b,d;cases f;rw[zC l]at f;exact a.h x.g x.h k g p m h i f;let⟨c,r,d⟩:=a.l x.g j g n h v;rw[qT,r];split;exact⟨_,J,by rwa[ib]⟩;exists c,J
def Dh(a:bj z)(b:(ax z.a x.g).a[x.h]?=Q w)(d:w.c[x.c]?=Q y)(g:x.g<Y z.a)(e:z.m=u.a){c}(f:eM (ad y.b)=Q c):RJ z y (gt u z x c y.a):=by rw[gt];cases p:jf z x with|some j=>refine⟨a,cq.o z,?_,J⟩;rw[jf]at p;let⟨o,l,k⟩:=Option.join_eq_some_iff.1 p|>λs=>(⟨Q j,s,J⟩:∃q,((z.a[x.g]?).bind λr=>(r.i[x.h]?).bind λm=>m[x.c]?)=Q q/\q=Q j);subst k;let⟨k,o,i⟩:=ay.1 l;let⟨p,n,i⟩:=ay.1 i;let⟨r,q,l,m,h⟩:=a.h x.g x.h x.c k p j o n i;(have i:k.c.a[x.h]?=Q w:=by rw[ax]at b;rwa[o]at b);rw[i]at l;cases l;rw[d]at m;cases m;exact h|none=>have h:=Sl a e f;generalize fk u z c y.a=e at h;let⟨c,t⟩:=e;have a:(ax t.a x.g).a[x.h]?=Q w:=(h.b.a g).2.2.1▸b;let⟨v,n⟩:=ael h.a a d h.d;exact⟨v,h.b.n n,h.d.a n.tofj h.a.a,h.c⟩
end
section
variable{z y:ag}{w:a8}{x:cK}
def Sb{c:Type}{a b}:∀{g:W c},(g.filter a).getLast?=Q b->∃s i,g=s++b::i/\a b=K/\∀k∈i,a k=N|[],n=>by cases n|j::h,d=>by rw[i2]at d;cases e:(h.filter a).getLast? with|some l=>(have:l=b:=by split at d;rw[asI,e]at d;exact cx d;rw[e]at d;exact cx d);subst this;let⟨t,u,o,v⟩:=Sb e;exists j::t,u,by rw[o];rfl|none=>let f:=asJ.1 e;split at d;(next p=>rw[f]at d;cases d;exact⟨[],h,J,p,λm q=>by cases r:a m with|false=>rfl|true=>have:=pq.2 ⟨q,r⟩;rw[f]at this;cases this⟩);rw[e]at d;cases d
def Lt(b:el z.a){a}(d:a<Y z.a)(c:eO z.a a≠.b):eX z.a a∈bY z.a a/\eO z.a (eX z.a a)≠.b/\∀n∈(bY z.a<|eX z.a a).tail,eO z.a n=.b:=by rw[eX];cases h:((bY z.a a).filter λk=>cj<|eO z.a k≠.b).getLast? with|none=>let⟨j,g⟩:=a1 d;let i:a∈(bY z.a a).filter λl=>cj<|eO z.a l≠.b:=pq.2 ⟨fv g▸(b.a a j g).1,iy c⟩;rw[asJ.1 h]at i;cases i|some m=>let⟨v,u,f,o,p⟩:=Sb h;refine⟨f▸bo _ (.head _),ej o,λe q=>?_⟩;have:=Td b f;(let r:e∈u:=by let s:e∈(bY z.a m).tail:=q;rwa[this]at s);have:=p e r;exact aa3 λt=>by rw[iy t]at this;cases this
def LF(c:bj z){d}(e:dF z d){b}(a:je z (ax z.a d)=Q b):bj b/\cq z b/\pz b d/\b.a=z.a/\b.b=z.b/\bH b=bH z:=by rw[je]at a;split at a;cases a;next m b=>split at a;(next v=>cases a;let h:cq z {z with h:=z.h++m.filter λs=>(gu z s.b).isNone}:=⟨⟨λf j t=>⟨j,t,lz.b j⟩,λk n u=>⟨n,u,J⟩,bd _,λw g p=>p,λi q=>bS _ q,J⟩,bd _,J⟩;refine⟨c.i h.tofj J J (λf g k l=>?_) λd o x=>(c.e d o x).a h.tofj c.a,h,⟨e.a h.tofj c.a,m,b,λf g=>?_⟩,J,J,J⟩;rcases dl.1 g with a|a;exact c.o f a k l;have:=(pq.1 a).2;let y:gu z f.b=Q k:=l;rw[y]at this;cases this;cases i:gu z f.b with|none=>exact .inl<|bo _<|pq.2 ⟨g,by rw[i];rfl⟩|some r=>have:=lR.1 v f g;rw[i]at this;exact .inr ⟨r,i,this⟩);cases a
def Sc{b:dg->aJ}{c:dg->dg}(d:∀h,b (c h)=N):∀{e:W dg}{a:Nat}{f:dg},e[a]?=Q f->b f=K->Y ((e.modify a c).filter b)+1<=Y (e.filter b)|[],a,q,j,_=>by simp at j|g::o,0,r,k,m=>by cases k;show Y ((c g::o).filter b)+1<=_;rw[i2,i2,d g,m];simp|i::p,a+1,s,l,n=>by show Y ((i::p.modify a c).filter b)+1<=_;rw[i2,i2];have:=Sc d (a:=a) l n;split;simpa using this;exact this
def Gn(b:bj z){a c}(e:c≠.c)(d:c=.b->∀i∈bY z.a a,pz z i):bj (dn z a c)/\cq z (dn z a c):=b.m (λ_=>Kc) (λ_ j=>aE j e) (λ_ _ k=>d k) (λf l=>b.k a f l) (λg r u t v m o q=>b.h a r u g t v m o q)<|λh s x n p=>b.l a s h x n p
def SG{b a}(c:z.a[b]?=Q a)(d:a.g=.c):bH (dn z b .b)+1<=bH z:=by have:=Sc (b:=λe=>cj<|e.g=.c) (c:=λa=>{a with g:=.b}) (λ_=>rfl) c<|iy d;rw[bH];exact P4 this<|Y<|z.m.filter λf=>(b5 z.d f.1).isNone
def Dq(d:bj z)(a b:Int)(c:ac):bj (bX z a b c)/\cq z (bX z a b c):=d.b J J J J J
def Lf(b:bj z)(a):bj (eW z a)/\cq z (eW z a)/\(eW z a).b=z.b:=by obtain⟨c,d⟩:=Gn b (c:=.a) A nofun;obtain⟨e,f⟩:=Dq c 5 0<|bW z.a a;exists e,d.n f
def Ly{b d c}(a:lV b d=Q c):∃x,b.a[c]?=Q x/\x.g=K/\x.d=[]/\x.a.a=0:=by
 rw[lV]at a;let⟨j,k,a⟩:=ay.1 a;let⟨x,f,a⟩:=ay.1 a;split at a;next l=>cases a;let⟨m,e,i,_⟩:=Gj k;rw[f]at e;cases e;let⟨_,g,h⟩:=ss.1 i;exact⟨x,f,l,h,by rw[g];rfl⟩
 cases a
def adi(z:ag)(a:Nat):S Nat×aJ×ag->Prop|(Z,K,y)=>y=z/\eO z.a a=.b|(Z,N,y)=>bj y/\cq z y/\bH y+1<=bH z/\(y.b=z.b\/∃d c,c.a=0/\y.b=d::z.b/\∀b,bj b->cq y b->∀e,fh b e c->jb b (d::e))|(Q f,_,y)=>bj y/\cq z y/\sm y f/\y.b=z.b
def ww(a:bj z){b:Nat}(c:dF z b):adi z b (dO w z b):=by
 rw[dO];split;next e=>exists J
 next d=>let⟨e,h,y⟩:=Lt a.a c.1 d;simp only;generalize eX z.a b=d at e h y;have q:=c.b a.a e;split;let⟨g,j,l,i⟩:=Ak a<|fE 0 L;exists g,j,l;next p=>split;let⟨i,k⟩:=Gn a (a:=d) (c:=.a) A nofun;let⟨m,n,o,r⟩:=Ak i<|fE 3 L;exists m,k.n n,o;next e t=>let⟨r,n,u,s,ha,hb⟩:=LF a q t;let⟨f,v⟩:=a1 q.1;(have l:f.g=.c:=by rw[eO]at h p;rw[v]at h p;cases j:f.g with|c=>rfl|b=>exact aE j h|a=>exact aE j p);have m:e.a[d]?=Q f:=s▸v;let⟨j,t⟩:=Gn r (a:=d) (c:=.b) A (λ_ g h=>by let⟨c,v,_⟩:=r.a.c d f m;have k:bY e.a d=d::c:=fv m▸v▸J;rw[k]at h;rcases cB.1 h with rfl|p;exact u;have i:g∈(bY z.a d).tail:=s▸k▸p;have f:=(jZ a.a<|asP i).2;let⟨o,c⟩:=a1 f;exact(Dn a f (y g i) g<|fv c▸(a.a.a g o c).1).a n.tofj a.a);have g:=SG m l;rw[hb]at g;let⟨k,l⟩:=Dq j 3 0<|bW e.a d;have i:=(n.n t).n l;have o:bH (bX (dn e d .b) 3 0<|bW e.a d)+1<=bH z:=g;have a:=((t.n l).a<|s▸q.1).2.2.1;have n:=u.a (t.n l).tofj r.a;have j:(bX (dn e d .b) 3 0<|bW e.a d).b=z.b:=ha;rw[gb];simp only;generalize bX (dn e d .b) 3 0 (bW e.a d)=f at k l i o a n j;cases q:lV (ax e.a d) qi with|none=>let⟨u,y⟩:=Dq k 4 0<|bW e.a d;exact⟨u,i.n y,o,.inl j⟩|some l=>let⟨x,g,hc,ha,hb⟩:=Ly q;simp only;cases h:tt w f with|true=>let⟨r,s,t⟩:=Lf k d;let⟨y,c,e,f⟩:=Ak r<|fE 13 L;exact⟨y,(i.n s).n c,e,f.trans<|t.trans j⟩|false=>have h:=n.1.1;let⟨m,u,v,p,q⟩:=Ga k (a:=d) (b:=l) (c:=x) (d:=[]) (e:=Q d) (a▸g) n (by rw[jr];show bg _ [] (bif x.g then x.d else _);rw[hc,ha];exact .b) (λb d=>by cases d;exists h);refine⟨m,i.n u,?_,.inr ⟨v,x.a,hb,p▸j▸J,λd r b s a=>q d r (u.n b) s a⟩⟩;exact o
end
section
variable{z x:ag}{t:a8}{y:bV}{w:cK}{u:c3}
def cr.nc(j:cr z y w u)(r:bj x)(p:cq z x)(q:x.b=z.b):cr x y w u:=⟨r,j.c.a p.tofj j.a.a,j.b.a p.tofj j.a.a j.c.c,j.nd,by rw[q];exact fh.a p.tofj j.a.a j.o,j.h,j.m⟩
def Ad.a(e:cq z x){c d}(b:Ad x c d):Ad z c d:=⟨b.1,e.n b.2.1,b.2.2⟩
def re(z:ag)(y:bV):eA->Prop|.a=>False|.b e x=>Ad z e x|.c x=>y.e=Z/\bj x/\cq z x/\bH x+1<=bH z/\(x.b=y::z.b\/∃c b,b.a=0/\x.b=c::y::z.b/\∀a,bj a->cq x a->∀d,fh a d b->jb a (c::d))
def re.a{c}(b:ca z c):re z y (eA.d c):=by obtain⟨d,x,rfl,b⟩:=b;exact b
def cr.nh(p:cr z y w u)(q:fj z x){j}(r:j.g=y.g)(s:j.h=y.h)(t:j.c=y.c)(v:j.f=y.f)(ha:j.b=y.b)(hb:j.e=Z)(hc:x.b=j::z.b):wm x x.b:=by let j:=p.a.a;rw[hc];let hc:=p.c.a q j;refine⟨w,⟨r▸s▸hc.b,r▸hc.d,λhd he=>hc.g hd<|ha▸he⟩,hb,⟨t▸p.b.1,?_⟩,fh.a q j p.o⟩;rw[r,s,t,v,(q.a p.c.c).2.2.1];exact p.b.2.1.c λ_ _=>bu.a q j
def Lu(a:cr z y w u)(d:z.m=t.a){b}(c:eM u.b.toNat=Q b)(e:u.b.toNat=25\/u.b.toNat=26->lU y=Q N):re z y (mS t z y u b):=by
 have f:=Dh a.a a.c.b a.h a.c.c d c;unfold mS;simp only;generalize gt t z y b u.a=hx at f;obtain⟨o,g⟩:=hx;have hn:=a.nc f.a f.b f.c;have q:∀he:qj u.b.toNat=K->∀i,jD o=Q i->eO g.a i=.b,re z y (eA.d<|dP t g y u.b.toNat o):=λhe=>by obtain⟨hw,hy,l,hm⟩:=Tg hn c f.d.1 f.d.2 e he;exact re.a ⟨hw,hy,l,hm.a f.b⟩
 cases hp:qj u.b.toNat with|false=>exact q λh=>by rw[hp]at h;cases h|true=>simp only[jy];cases k:jD o with|none=>exact q λ_ i h=>by rw[k]at h;cases h|some i=>simp only;(have ho:dF g i:=by have s:=f.d.1;cases o with|a h4=>cases k|b hb=>cases k;exact s.1|c hb j=>cases k;obtain⟨hk,_,_,l,_,p,_⟩:=s;exact l.b f.a.a p|d hb h3=>cases k;obtain⟨hk,_,l,_,p,_⟩:=s;exact l.b f.a.a p);obtain⟨hr,hg⟩:=f.a.b (y:=aV g y) J J J J J;have n:=ww (w:=t) hr<|ho.a hg.tofj f.a.a;have hc:=f.b.n hg;(have r:(aV g y).b=y::z.b:=by show y::g.b=_;rw[f.c]);have h1:bH (aV g y)=bH g:=rfl;have h0:bH g<=bH z:=f.b.l;generalize h2:dO t (aV g y) i=hs at n;obtain⟨hf,hj,x⟩:=hs;cases hf with|some hf=>obtain⟨v,ha,hh,m⟩:=n;have hd:=hc.n ha;exact⟨v,hd,hh,a.nh hd.tofj J J J J J a.m<|m.trans r⟩|none=>cases hj with|true=>obtain⟨rfl,hq⟩:=n;exact q λ_ hz h=>by rw[k]at h;cases h;exact hq|false=>obtain⟨v,ha,hh,m⟩:=n;(exists a.m,v,hc.n ha,L);rcases m with m|⟨hl,hi,ht,hu,hv⟩;(·exact .inl<|m.trans r);·exact .inr ⟨hl,hi,ht,hu▸r▸J,hv⟩
def Lc(a:bj z)(d:z.m=t.a)(b:eZ z y w)(c:kR z y w y.c)(f:y.d=y.c+1)(e:fh z z.b w.a)(g:∀r,y.e=Q r->sm z r):re z y (ii t z y):=by rw[ii];cases q:y.e with|some i=>let⟨j,k⟩:=a.b (y:=aV z {y with e:=Z}) J J J J J;refine⟨j,k,(g i q).a k.tofj a.a,w,?_,J,?_,fh.a k.tofj a.a e⟩;exact(⟨b.b,b.d,b.g⟩:eZ z {y with e:=Z} w).a k.tofj a.a;exact uI.a k.tofj a.a b.c ⟨c.1,c.2.1⟩|none=>(let h:cu z.a y.g y.h=w:=by rw[cu];rw[b.b];rfl);let⟨u,o⟩:=a1 c.1;simp only;rw[h,o];simp only;let h:cr z y w u:=⟨a,b,c,f,e,o,q⟩;cases m:eM (ad u.b)with|none=>exact re.a<|aei h m|some n=>simp only;split;(next n=>(let g:∃s v,y.a=s++[v]:=by rcases n with l|l;let⟨_,_,_,x,v,o,_⟩:=h.g l J;exists x,v;let⟨_,_,_,a,v,p,_⟩:=h.g l J;exists a,v);let⟨l,v,f⟩:=g;(let p:y.a.getLast?=Q v:=by rw[f];simp);cases i:lU y with|none=>rw[lU]at i;rw[p]at i;cases i|some b=>cases b with|true=>(let k:y.a.getLast?=Q .a:=by rw[lU]at i;rw[p]at i⊢;cases v<;>first|rfl|cases i);simp only;rcases n with j|j;rw[j];exact re.a<|ad6 h j k;rw[j];exact re.a<|ad7 h j|false=>exact Lu h d m λ_=>i);next e=>exact Lu h d m λc=>aE c e
def LI{a}:∀{b},bj z->wm z b->sm z a->bj (hO z a b)/\cq z (hO z a b)/\jb (hO z a b) (hO z a b).b|[],d,_,_=>by let⟨i,c⟩:=d.b (y:={z with b:=[],i:=Q a}) J J J J J;exists i,c|y::e,d,⟨w,h,hd,hc,s⟩,u=>by rw[hO];(have hx:cu z.a y.g y.h=w:=by rw[cu];rw[h.b];rfl);cases k:mj z y a with|some g=>simp only;rw[mj]at k;rw[hx]at k;have hw:=CE k;have m:=asA k;rw[cQ]at m;let⟨hz,h0⟩:=ej m.1;let⟨h7,h8⟩:=(h.i d).b y.c g hc.1 hw hz h0;let⟨hn,hb,kb⟩:=u;(have h2:bu z (.c a) (fa<|lL [g.a,eo]):=by apply bu.d hb;(have hv:eV z a=hn.a:=by rw[eV];rw[hb]);rw[hv,lu]at m;by_cases t:g.a=bU;rwa[t];(have hy:lL [g.a,eo]=g.a:=by rw[lL];rw[uq,show aM g.a bU=N from ps t];rfl);rw[hy];rcases m.2 with c|c;exact aE (ej c) t;exact c);let⟨i,c⟩:=d.b (y:={z with b:={y with d:=(ad g.b),a:=[.c a]}::e}) J J J J J;refine⟨i,c,w,(⟨h.b,h.d,h.g⟩:eZ z {y with d:=(ad g.b),a:=[.c a]} w).a c.tofj d.a,kR.a c.tofj d.a h.c (y:={y with d:=(ad g.b),a:=[.c a]}) ⟨h7,?_⟩,fh.a c.tofj d.a s,λhg q=>by rw[show y.e=Q hg from q]at hd;cases hd⟩;exact h.f d hc.2 (.a h2 .b) h8|none=>simp only;cases h1:y.b with|none=>simp only;refine LI d ?_ u;(cases e with|nil=>trivial|cons r e=>let⟨o,hk,hl,hm,h9,ka⟩:=s;exists o,hk,hl,hm)|some f=>simp only;have hu:=(h.g f h1).2;let⟨h5,hf⟩:=d.b (y:={z with b:=e}) J J J J J;let⟨x,ha,hp⟩:=Lf h5 f;(have h3:bj (eN (eW {z with b:=e} f) a).2/\cq (eW {z with b:=e} f) (eN (eW {z with b:=e} f) a).2/\sm (eN (eW {z with b:=e} f) a).2 (eN (eW {z with b:=e} f) a).1/\(eN (eW {z with b:=e} f) a).2.b=e:=by rw[eN];split;exists x,cq.o _,u.a (hf.n ha).tofj d.a;let⟨hq,hr,hs,ht⟩:=Ak x<|fE 6 L;exact⟨hq,hr,hs,ht.trans hp⟩);let⟨p,hh,hi,hj⟩:=h3;have v:=(hf.n ha).n hh;generalize eN (eW {z with b:=e} f) a=j at p hh hi hj v;cases e with|nil=>simp only;let⟨i,c⟩:=p.b (y:={j.2 with i:=Q j.1}) J J J J J;exists i,v.n c;rw[show({j.2 with i:=Q j.1}:ag).b=[]from hj];trivial|cons r h6=>simp only;let⟨i,c⟩:=p.b (y:={j.2 with b:={r with e:=Q j.1}::h6}) J J J J J;have l:=v.n c;let⟨o,n,he,h4,kc⟩:=SR d s hu;refine⟨i,l,o,(⟨n.b,n.d,n.g⟩:eZ z {r with e:=Q j.1} o).a l.tofj d.a,kR.a l.tofj d.a n.c ⟨he.1,he.2⟩,fh.a l.tofj d.a h4,λhg q=>?_⟩;have ho:=q;cases ho;exact hi.a c.tofj p.a
end
section
variable{z y:ag}{x:a8}{u:bV}{w:cK}
def R7(a:bj z)(b):bj {z with e:=b}/\fj z {z with e:=b}:=by let d:fj z {z with e:=b}:=⟨λm c i=>⟨c,i,lz.b c⟩,λp e j=>⟨e,j,J⟩,bd _,λx n g=>g,λo h=>h,J⟩;exists a.g d J J J λl f k=>(a.e l f k).a d a.a
structure RK(z y):Prop where
 a:bj y
 b:fj z y
 d:jb y y.b
 c:(y.e=z.e/\bH y+1<=bH z)\/(y.e=z.e+1/\bH y<=bH z)
def S7(a:bj z)(c:z.m=x.a)(b:jb z z.b)(d:z.b≠[]):∃y,lW x z=Q y/\RK z y:=by rw[lW];cases i:z.b with|nil=>exact aE i d|cons u f=>rw[i]at b;let⟨w,n,e,h,k⟩:=b;simp only;let⟨p,g⟩:=a.b (y:={z with b:=f}) J J J J J;have i:=(⟨n.b,n.d,n.g⟩:eZ z {u with c:=u.d,d:=u.d+1} w).a g.tofj a.a;have s:=kR.a g.tofj a.a n.c (y:={u with c:=u.d,d:=u.d+1}) ⟨e.1,e.2⟩;have n:=fh.a g.tofj a.a h;have l:=λm d=>(k m d).a g.tofj a.a;have m:=Lc p c i s J n l;have ha:bH {z with b:=f}=bH z:=rfl;have q:({z with b:=f}).e=z.e:=rfl;have r:Y (u::f)=Y f+1:=rfl;generalize e:({z with b:=f})=r at*;have t:r.b=f:=e▸J;generalize j:({u with c:=u.d,d:=u.d+1})=e at*;(have c:e.c=u.d/\e.e=u.e:=by rw[<-j];exists J);generalize ii x r e=v at m;cases v with|a=>exact aE m id|b v y=>let⟨q,o,a⟩:=m;have j:=g.n o;let⟨h,l⟩:=R7 q<|y.e+1;have k:=j.tofj.b l;(cases v with|none=>refine⟨_,J,h,k,jb.a l q.a a,.inr ⟨?_,?_⟩⟩;show y.e+1=_;rw[j.m];exact j.l|some v=>let⟨d,b,o⟩:=LI h (wm.a l q.a a.2)<|a.1.a l q.a;refine⟨_,J,d,k.b b.tofj,o,.inr ⟨?_,?_⟩⟩;exact b.m.trans (by show y.e+1=_;rw[j.m]);exact df b.l j.l)|c y=>let⟨a,l,v,h,q⟩:=m;have o:=g.n v;rw[t]at q;(have j:∀k,bj k->cq r k->eZ k {e with d:=e.c} w/\kR k {e with d:=e.c} w e.c/\fh k f w.a:=λm b t=>by refine⟨(⟨i.b,i.d,i.g⟩:eZ r {e with d:=e.c} w).a t.tofj p.a,kR.a t.tofj p.a i.c ?_,fh.a t.tofj p.a n⟩;rw[c.1];exact⟨s.1,s.2⟩);rcases q with g|⟨m,p,i,n,k⟩;let⟨p,r⟩:=l.b (y:={y with b:={e with d:=e.c}::f}) J J J J J;refine⟨{y with b:={e with d:=e.c}::f},?_,p,(o.n r).tofj,?_,.inl ⟨o.m,?_⟩⟩;simp only;rw[g];simp[P0];let⟨s,t,b⟩:=j _ p<|v.n r;refine⟨w,s,t,b,λg c=>?_⟩;have g:=c;rw[a]at g;cases g;rwa[<-ha];let⟨c,d⟩:=l.b (y:={y with b:=m::{e with d:=e.c}::f}) J J J J J;refine⟨{y with b:=m::{e with d:=e.c}::f},?_,c,(o.n d).tofj,?_,.inl ⟨o.m,?_⟩⟩;simp only;rw[n];simp[P0];let⟨f,h,o⟩:=j _ c<|v.n d;refine k _ c d _ ⟨w,f,a,⟨h.1,h.2.1⟩,⟨h.1,_,_,h.2.1,h.2.2,?_⟩,o⟩;rw[aC i];exact fZ.b _ _;rwa[<-ha]
structure Ac(x)(e:ag->Prop):Prop where
 b:∀z y,bj z->z.m=x.a->jb z z.b->e z->lW x z=Q y->e y
 a:∀z f,bj z->dF z f->z.b=[]->e z->e (dO x z f).2.2
 c:∀z f g,z.b=[]->e z->e (ga z f g [] Z)
 d:∀z,bj z->z.m=x.a->e z->e (et x x.e z).2
structure Lb(x:a8)(z:ag)(i:Int×ByteArray×ag):Prop where
 b:bj i.2.2
 g:fj z i.2.2
 d:i.1=1\/i.1=2\/i.1=4
 c:i.1=1->i.2.2.b=[]
 f:bH i.2.2<=bH z
 e:i.2.2.e<=x.d
 h:i.1=4->i.2.2.e=x.d
variable{t:ag->Prop}
def Gc(a:Ac x t):∀(k)(z),bj z->z.m=x.a->jb z z.b->t z->z.e<=x.d->x.d-z.e+bH z<k->∃h,fQ x k z=Q h/\Lb x z h/\t h.2.2|0,_,_,_,_,_,_,r=>aE r (J7 _)|l+1,z,c,g,i,w,e,f=>by rw[fQ];split;(next u=>let b:=JS u;split;exists _,J,⟨c,(cq.o z).tofj,.inr<|.inl J,λm=>aE m (by show(2)≠1;decide),bd _,e,λn=>aE n (by show(2)≠4;decide)⟩;exists _,J,⟨c,(cq.o z).tofj,.inl J,λ_=>b,bd _,e,λo=>aE o (by show(1)≠4;decide)⟩);next v=>split;(next s=>exists _,J,⟨c,(cq.o z).tofj,.inr<|.inr J,λp=>aE p (by show(4)≠1;decide),bd _,e,λ_=>s⟩);next d=>let⟨y,j,d⟩:=S7 c g i λq=>v (by rw[q];rfl);let e:=a.b z y c g i w j;rw[j];(let f:y.e<=x.d/\x.d-y.e+bH y<l/\bH y<=bH z:=by rcases d.c with⟨i,k⟩|⟨j,m⟩<;>omega);let⟨h,c,b,n⟩:=Gc a l y d.a (d.b.e.trans g) d.d e f.1 f.2.1;exists h,c,⟨b.b,d.b.b b.g,b.d,b.c,df b.f f.2.2,b.e,b.h⟩
structure C7(x:a8)(d:Int×ByteArray×ag):Prop where
 c:d.1=1\/d.1=2\/d.1=3\/d.1=4
 a:d.2.2.e<=x.d
 b:d.1=4->d.2.2.e=x.d
def Lb.a{j}(i:Lb x z j):C7 x j:=⟨by rcases i.d with i|i|i<;>simp[i],i.e,i.h⟩
def S0(c:Ac x t){a b:Nat}{w:cK}:∀(i)(z),bj z->z.m=x.a->z.b=[]->t z->z.e<=x.d->dF z a->(ax z.a a).a[b]?=Q w->w.g=K->w.d=[]->w.a.a=0->x.d+bH z+1<i->∃l,kU x a b i z=Q l/\C7 x l/\t l.2.2|0,_,_,_,_,_,_,_,_,_,_,_,hp=>aE hp (J7 _)|i+1,z,f,n,o,hz,hc,g,hx,he,hd,h1,kb=>by rw[kU];have m:=ww (w:=x) f g;have j:=c.a z a f g o hz;generalize kd:dO x z a=l at m j;let⟨hg,hj,y⟩:=l;have j:=j;cases hg with|some hg=>have h9:=m.2.1.m;exists _,J,⟨.inr<|.inl J,by show y.e<=_;omega,λhn=>aE hn (by show(2)≠4;decide)⟩|none=>simp only;cases hj with|true=>obtain⟨rfl,h2⟩:=m;let⟨s,r,e,q⟩:=Gc c i y f n (by rw[o];trivial) j hc L;rw[r];let⟨h3,hm,d⟩:=s;simp only[b2];split;(next p=>have hf:=e.c p;have h:=e.g;have hu:=(h.a g.1).2.2.1;let⟨hi,hb⟩:=a1 g.1;have ht:=(Dn f g.1 h2 a<|fv hb▸(f.a.a a hi hb).1).a h f.a;let⟨v,ha,ho,hk,hl⟩:=Ga e.b (a:=a) (b:=b) (c:=w) (d:=[]) (e:=Z) (by show(ax d.a a).a[b]?=_;rwa[hu]) ht (by rw[jr];show bg _ [] (bif w.g then w.d else _);rw[he,hd];exact .b) nofun;(have hr:jb (ga d a b [] Z) (ga d a b [] Z).b:=by rw[hk];apply hl _ v ha _;show fh _ d.b _;rwa[hf]);have hy:bH d<=bH y:=e.f;have hw:=e.e;have ka:bH (ga d a b [] Z)=bH d:=rfl;have h8:(ga d a b [] Z).e=d.e:=rfl;let⟨k,h0,hq,kc⟩:=Gc c i (ga d a b [] Z) v (ha.e.trans<|h.e.trans n) hr (c.c d a b hf q) hw L;exists k,h0,hq.a);exists _,J,e.a|false=>let⟨hh,k,ke,u⟩:=m;(have hs:jb y y.b:=by rcases u with u|⟨ho,h7,h4,h5,h6⟩;rw[u,o];trivial;rw[h5,o];exact h6 y hh (cq.o y) [] h4);have hv:=k.m;let⟨s,r,e,q⟩:=Gc c i y hh (k.e.trans n) hs j (hv▸hc) L;rw[r];let⟨h3,hm,d⟩:=s;simp only[b2];split;(next p=>have h:=k.tofj.b e.g;have hy:bH d<=bH y:=e.f;exact S0 c i d e.b (h.e.trans n) (e.c p) q e.e (g.a h f.a) ((h.a g.1).2.2.1▸hx) he hd h1 L);exists _,J,e.a
def aem(e:Ac x t){c}(d:bj z)(a:z.m=x.a)(g:z.b=[])(b:t z)(f:z.e<=x.d)(h:x.d+bH z+1<c):∃j,jd x c z=Q j/\C7 x j/\t j.2.2:=by
 have i:=so 42 x.e z d a;have k:t (dN x 42 x.e z).2:=e.d z d a b;rw[jd,et];generalize dN x 42 x.e z=j at i k;let⟨l,y⟩:=j;have k:=k;have p:y.e<=x.d:=(show y.e=z.e from i.b.2.1)▸f;rcases i.e with⟨l,n⟩|⟨j,n,f⟩;have o:=n;subst o;simp only;let⟨q,d⟩:=i.a.d _ l<|i.d l J;cases b:lV (ax y.a l) uR with|none=>exists _,J,⟨.inr<|.inr<|.inl J,p,λm=>aE m (by show(3)≠4;decide)⟩|some h=>let⟨w,r,v,s,u⟩:=Ly b;have b:bH y<=bH z:=i.c.l;exact S0 e c y i.a (i.c.e.trans a) (i.b.1.trans g) k p q r v s u L
 have o:=n;subst o;exists _,J,⟨.inr<|.inr<|.inl J,p,λm=>aE m (by show(3)≠4;decide)⟩
end
section
variable{z:a8}
def uN{a c}(b:e0[a]?=Q c):a<17/\c=⟨hL[a]?.getD bU,if a=0 then[0]else if a=1 then[1,0]else if a=2 then[2,1,0]else[a,2,1,0],⟨bU,bU,[],[]⟩,.b,[],[],[],[],[]⟩:=by rw[e0]at b;rw[cv]at b;obtain⟨f,d,rfl⟩:=b3.1 b;let e:=(bc.1 d).1;rw[aaE]at e;rw[sd e]at d;cases d;exists e
def yi{a}(b:a<17):e0[a]?=Q ⟨hL[a]?.getD bU,if a=0 then[0]else if a=1 then[1,0]else if a=2 then[2,1,0]else[a,2,1,0],⟨bU,bU,[],[]⟩,.b,[],[],[],[],[]⟩:=by rw[e0];rw[cv,sd b];rfl
def ado(a):c5 e0 a=[]:=by rw[c5];cases b:e0[a]? with|none=>rfl|some c=>rw[(uN b).2]
def RU:el e0:=by
 refine⟨λb g a=>?_,λr d=>⟨_,_,yi d,yi d,J,J,J,J,J,J⟩,λk h o e=>aE (uN e).1 L,λl i a s n f=>?_,λb j a m q=>?_⟩;obtain⟨p,rfl⟩:=uN a;simp only;rcases dy b 3 with c|c;match b,c with|0,_=>exact⟨[],J,.inl av⟩|1,_=>exact⟨[0],J,.inr ⟨0,_,yi L,L,J⟩⟩|2,_=>exact⟨[1,0],J,.inr ⟨1,_,yi L,L,J⟩⟩
 rw[ak L,ak L,ak L];exact⟨[2,1,0],J,.inr ⟨2,_,yi L,L,J⟩⟩;obtain⟨_,rfl⟩:=uN a;simp at f;obtain⟨_,rfl⟩:=uN a;exact⟨[],by rw[ado];rfl⟩
def SK:∀c,c<17->∃d,b5 (es z).d (hL[c]?.getD bU)=Q (.b d)/\d=c:=by
 let g:∀a∈fX 17,(match b5 ((fX 17).map λa=>(hL[a]?.getD bU,dx.b a)) (hL[a]?.getD bU)with|Q (.b e)=>cj (e=a)|_=>N)=K:=A
 intro j i;let b:=g j<|pr.2 i;split at b;next f h=>exact⟨f,h,ej b⟩
 cases b
def Da{a}(b:a<17):bW e0 a=hL[a]?.getD bU:=by rw[bW];rw[yi b]
def RT{b a}(c:a∈bY e0 b):a<17:=by have:=(jZ RU c).2;rwa[show Y e0=17 from rfl]at this
def Si{a}(b:a<17):dF (es z) a:=by refine⟨b,λc g=>?_⟩;have d:=RT g;obtain⟨h,e,f⟩:=SK c d;rw[f]at e;show b5 (es z).d (bW e0 c)=_;rwa[Da d]
def Sg{b c}(a:b5 (es z).d b=Q c):∃d,d<17/\c=.b d/\hL[d]?.getD bU=b:=by rw[b5]at a;obtain⟨k,e,rfl⟩:=b3.1 a;let f:=CE e;let h:=asA e;let g:=f;obtain⟨j,i,rfl⟩:=cw.1 g;exact⟨j,pr.1 i,J,ej h⟩
def Sh(z):bj (es z):=by
 refine⟨RU,λp c d=>?_,λp q d=>?_,λb e=>?_,nofun,λc f a _ d l=>?_,λc f a=>?_,(λv r a=>by simp[es]at a),λc b w f t q a m _=>?_,λc b f u a n=>?_,λc o s=>?_⟩;·obtain⟨b,e,g,h⟩:=Sg d;cases g;exact⟨Si e,(Da e).trans h⟩
 ·obtain⟨b,_,g,_⟩:=Sg d;exact .inl ⟨b,g⟩
 ·have h:bW (es z).a b=hL[b]?.getD bU:=Da e;obtain⟨c,j,k⟩:=SK b e;rw[h,j,k]
 ·have i:=RT l;refine⟨Si i,[],?_,nofun⟩;(have:ax e0 d=⟨bU,bU,[],[]⟩:=by rw[ax];rw[yi i]);show il (ax e0 d)=_;rw[this];rfl
 ·obtain⟨_,rfl⟩:=uN a;exact .b
 ·obtain⟨_,rfl⟩:=uN a;simp at m
 ·obtain⟨_,rfl⟩:=uN a;simp at n
 ·have:c<17:=o.1;omega
def R8(z){a}(d:Ac z a)(c:a (es z)){b}(e:z.d+Y z.a+20<b):∃f,jd z b (es z)=Q f/\C7 z f/\a f.2.2:=by refine aem d (Sh z) J J c (eL _) ?_;let g:bH (es z)<=Y z.a+17:=Nat.add_le_add (xJ ..)<|df (xJ ..)<|aaP J;omega
end
def gj(a:ag):Nat:=(Y<|a.m.filter λb=>(b5 a.d b.1).isNone)
structure jY(e):Prop where
 b:Y e.a+gj e<=57
 c:∀(g:Nat)f,e.a[g]?=Q f->Y f.f<=20*(g+1)
def Sk{d:Type}{a c}(b:∀e,a e=K->c e=K):∀g:W d,Y (g.filter a)<=Y (g.filter c)|[]=>bd _|f::i=>by have:=Sk b i;rw[i2,i2];cases h:a f with|true=>rw[b f h];simpa using this|false=>simp only[ie,gV];split;exact df this<|mM _;exact this
section
variable{z:ag}{x:a8}{w:ac}{y:dx}
def Gv:gj (dG z w y)<=gj z:=Sk (λb c=>by let a:(b5 (eu z.d w y) b.1).isNone=K:=c;rw[mR]at a;split at a;cases a;exact a) z.m
def Tb(b:b5 z.d w=Z)(a:∃c∈z.m,c.1=w):gj (dG z w y)+1<=gj z:=by have:=SF (b:=y) b a;unfold bH at this;let d:(dG z w y).a=z.a:=rfl;rw[d]at this;unfold gj;omega
def RN:∀(d:W i5)(b:dg),Y (d.foldl gY b).f<=Y b.f+Y d|[],f=>bd _|c::e,a=>by let g:=RN e<|gY a c;(let h:Y (gY a c).f<=Y a.f+1:=by rw[gY];split;exact mM _;simp);simp only[qS,de];omega
def jY.a(e:jY z):jY (dG z w y):=⟨df (P4 Gv _) e.b,e.c⟩
def jY.d{f e}(g:∀(e)k,z.a[e]?=Q k->Y k.f<=20*(e+1))(j:Y z.a+gj z<=56)(h:e<Y z.a)(i:Y f.c<=20):jY (fl z f e):=by
 refine⟨by show Y (z.a++[_])+gj z<=57;rw[bJ];simp only[fB];omega,λq p r=>?_⟩;rcases ym r with s|⟨rfl,rfl⟩;exact g q p s;let⟨l,o⟩:=a1 h;let u:=g e l o;let m:=RN f.c ⟨f.d,Y z.a::bY z.a e,f,.c,[],c5 z.a e,[],f.a.map λt=>t.c.map λ_=>Z,[]⟩;let n:c5 z.a e=l.f:=by rw[c5];rw[o]
 rw[ij];rw[n]at m;simp only at m;rw[n];omega
def F7{b a}:(gJ z b a).2=fl z b a:=by rw[gJ];simp only;split;rfl;split<;>rfl
def aek{b a}:(gJ z b a).2.d=z.d/\(gJ z b a).2.m=z.m/\(gJ z b a).2.c=z.c:=by rw[F7];exists J,J
def Ge:∀(e)(j)(z),bj z->z.m=x.a->jY z->jY (dN x e j z).2/\Y (dN x e j z).2.a+gj (dN x e j z).2<=Y z.a+gj z/\Y (dN x e j z).2.c<=Y z.c+e|0,g,z,_,_,a=>⟨a,bd _,bd _⟩|c+1,a,z,u,k,i=>by have w:=so (c+1) a z u k;rw[dN]at w⊢;cases m:b5 z.d a with|some y=>exact⟨i,bd _,by show Y z.c<=_;omega⟩|none=>simp only[m]at w⊢;(have g:∀d,b5 z.d a≠Q (.b d):=λt s=>by rw[m]at s;cases s);have t:=(Dq (Dj u g<|.inl ⟨_,J,fE 2 L⟩).1 2 0 a).1;have n:jY (bX (dG z a<|.a cL) 2 0 a):=⟨(i.a).b,i.c⟩;have e:gj (bX (dG z a<|.a cL) 2 0 a)<=gj z:=Gv;(have b:Y (bX (dG z a<|.a cL) 2 0 a).c=Y z.c+1:=by show Y (z.c++[_])=_;simp);have h:bX {z with d:=eu z.d a<|.a cL} 2 0 a=bX (dG z a<|.a cL) 2 0 a:=rfl;rw[h]at*;rcases Al (x:=x) (a:=a)with⟨p,l,_⟩|⟨g,l,j,w,f⟩;rw[l];simp only;refine⟨jY.a (w:=a) (y:=.a p) n,?_,?_⟩;have:=Gv (z:=bX (dG z a<|.a cL) 2 0 a) (w:=a) (y:=.a p);show Y z.a+gj (dG (bX (dG z a<|.a cL) 2 0 a) a<|.a p)<=_;omega;show Y (bX (dG z a<|.a cL) 2 0 a).c<=_;omega;rw[l];simp only;have d:gj (bX (dG z a<|.a cL) 2 0 a)+1<=gj z:=Tb m<|k▸f;have v:=k;have b:=Ge c g.b (bX (dG z a<|.a cL) 2 0 a) t v n;have o:=so (x:=x) c g.b (bX (dG z a<|.a cL) 2 0 a) t v;have v:Y (bX (dG z a<|.a cL) 2 0 a).a=Y z.a:=rfl;generalize f:dN x c g.b (bX (dG z a<|.a cL) 2 0 a)=p at b o;let⟨r,f⟩:=p;let⟨d,l,m⟩:=b;simp only at d l m;(have h:∀(y)(b),jY b->Y b.a+gj b<=Y z.a+gj z->Y b.c<=Y z.c+(c+1)->jY {b with d:=eu b.d a y}/\Y ({b with d:=eu b.d a y}).a+gj {b with d:=eu b.d a y}<=Y z.a+gj z/\Y ({b with d:=eu b.d a y}).c<=Y z.c+(c+1):=λy q c u e=>by refine⟨jY.a (w:=a) (y:=y) c,?_,e⟩;have:=Gv (z:=q) (w:=a) (y:=y);show Y q.a+gj (dG q a y)<=_;omega);cases r with|b r=>simp only;have k:=o.a.d g.b r<|o.d r J;have a:=n.b;have c:=i.b;apply h _ _;rw[F7];exact jY.d d.c L k.1.1<|l8 (a:=20) j.2.2.1.1;rw[F7];show Y (f.a++[_])+gj f<=_;rw[bJ,fB];omega;rw[aek.2.2];omega|c n q=>exact h _ f d L L|d o s=>exact h _ f d L L|a i=>exact h _ f d L L
end
def ja(a b:ag):Prop:=∃c,b.c=a.c++c
section
variable{z x w:ag}{u t:a8}{y:Int}
def ja.b(z):ja z z:=⟨[],(eF _).symm⟩
def ja.a(d:ja z x)(e:ja x w):ja z w:=let⟨h,f⟩:=d;let⟨i,g⟩:=e;⟨h++i,by rw[g,f,hG]⟩
def De:∀(y)(f)(z),ja z (dN u y f z).2|0,_,z=>.b z|y+1,b,z=>by rw[dN];split;exact .b z;simp only;let c:ja z (bX {z with d:=eu z.d b<|.a cL} 2 0 b):=⟨_,J⟩;split;exact c;next g _=>let a:=De y g.b<|bX {z with d:=eu z.d b<|.a cL} 2 0 b;split;(next h i d=>rw[d]at a;apply(c.a a).a;rw[gJ];simp only;split;exact⟨[],(eF _).symm⟩;split<;>exact⟨[],(eF _).symm⟩);next t j _ e=>rw[e]at a;exact(c.a a).a ⟨[],(eF _).symm⟩
end
section
variable{z:ag}{y:a8}{x w:Int×ac×ag}{u t:Nat}
def Lh:∀{l k z},fQ y l z=Q x->fQ y k z=Q w->x=w|0,_,_,c,_=>by cases c|_+1,0,_,_,d=>by cases d|n+1,m+1,z,b,a=>by rw[fQ]at b a;split at b;(next i=>rw[aC i]at a;exact cx<|b.symm.trans a);next j=>rw[ak j]at a;split at b;(next g=>rw[aC g]at a;exact cx<|b.symm.trans a);next h=>rw[ak h]at a;let⟨o,e,f⟩:=ay.1 b;rw[e]at a;exact Lh f a
def S1:∀{n m z},kU y u t n z=Q x->kU y u t m z=Q w->x=w|0,_,_,g,_=>by cases g|_+1,0,_,_,h=>by cases h|s+1,r+1,z,c,d=>by rw[kU]at c d;generalize dO y z u=p at c d;let⟨o,e,b⟩:=p;cases o with|some v=>exact cx<|c.symm.trans d|none=>let⟨⟨a,q,f⟩,i,b⟩:=ay.1 c;let⟨c,j,a⟩:=ay.1 d;have f:=Lh i j;subst f;simp only at b a;split at b;(next k=>rw[aC k]at a;cases e with|true=>exact Lh b a|false=>exact S1 b a);next l=>rw[ak l]at a;exact cx<|b.symm.trans a
def SY{d c}(b:jd y d z=Q x)(a:jd y c z=Q w):x=w:=by rw[jd]at b a;generalize et y y.e z=g at b a;let⟨v,m⟩:=g;cases v with|b u=>simp only at b a;split at b;(next t e=>rw[e]at a;exact S1 b a);next f=>rw[f]at a;exact cx<|b.symm.trans a|c h j=>exact cx<|b.symm.trans a|d i k=>exact cx<|b.symm.trans a|a l=>exact cx<|b.symm.trans a
end
def sA(a:aD)(d:fV)(c:String)(b:cV):Prop:=∀(v:bh)(e:ap),(method (aj a.types+Made.depth) d v c).run a e=.ok (b,v) e
section
variable{z:aD}{o:S Nat}{s:Nat}{r:bv ah}{q x:ap}{p:W Nat}{n m:bs}{l k:Nat}{d:W Nat}{c i:Nat->S P}{h:U}{w u:au}{g:W bz}{t:Act}{y:ah}{f:W ah}{e:Exit->Act->ap->Prop}
def anW{d j}{a c:Nat}{b v}(g:fc z)(e:∃k,z.funcs[a]?=Q k/\k.body.isNone=N)(f:sA z c b a)(h:y.op=.call ⟨.invoke d b,#[],j⟩)(i:t.eval d=.iface c v):(aY t.eval y).run z x=.ok (.enter a #[v]) x:=by let⟨q,m,l⟩:=e;let n:=g a q m;let r:(program:Sem aD).run z x=.ok z x:=rfl;simp only[aY,h,resolve,i,fN,jt,Result.andThen_ok,invoke,callMethod,callFunc];simp[r,f v x,m];rw[ak (by intro o;rw[o]at n;simp at n),ak (by intro p;rw[p]at l;cases l)]
def ae9{ha hg}{b j:Nat}{h v a}(hc:fc z)(hd:bx w r y.guard=Q K)(hb:sA z j h b)(d:y.op=.call ⟨.invoke ha h,#[],hg⟩)(he:al w ha=Q (.e j v))(c:wE z b [v] l i a)(hf:∀v hi hh,a v hi hh->∃u,bP s w y.dst v=Q u/\dY z o s r q p m k e f u g hi hh):dY z o s r q p m k e (y::f) w g l i:=by intro n x t hg ha a;simp only[wpListIn,ft a hd];existsλ_ _=>C;rw[Oper.semAt_eq _ _ _ (λh b=>by rw[d]at b;cases b)];let h:=a.a he;let⟨he,hd,j⟩:=Bb h;rw[anW hc c.1 hb d j];existsλb=>(by cases b);refine uC (c.2 q p n x [he] ha (by simp only[bm,hd])) ?_;rintro hc he⟨v,j,h,hd,d,b,rfl,c,ha,hb⟩;let⟨u,hd,hc⟩:=hf v j h b;exact hc d he _ (hg.a c) hb<|gD (a.c c.b) ha hd
def L0{hh hp}{hd hf hc:Nat}{he v hg hb}(ha b:W Nat)(hk:fc z)(hm:bx w r y.guard=Q K)(hj:sA z hf he hd)(hl:y.op=.call ⟨.invoke hh he,#[],hp⟩)(hn:al w hh=Q (.e hf v))(hi:c6 z hd [v] l (bp h ha) (λt hq hr=>t=hg/\hq=hc/\hr=hb))(a:bP s w y.dst hg=Q u)(ho:aH z o s r q p m k d c e f u g hc (hb++cS h b))(j:b.Perm ha/\b.Pairwise (·>·)/\ha.Nodup:=by decide):aH z o s r q p m k d c e (y::f) w g l h:=λi ha n x t he hc hf=>by let hb:=λhg hd=>(hc.a hg hd).2;let hd:=(tU b h j.2.1).trans<|(vw j.1).append_right _;let hg:=(hd.map _).nodup_iff.1 ha.a.c;refine ae9 hk hm hj hl hn (hi.2 i (ha.a.d j.2.2) hb) ?_ n x t he hc hf;rintro hh hf b⟨hc,⟨rfl,rfl,rfl⟩,j⟩;exact⟨u,a,ho b<|bw.e ha he.d hb (λhc a=>it a) (λb a=>hd.mem_iff.2<|bo _ a) hg j⟩
end
