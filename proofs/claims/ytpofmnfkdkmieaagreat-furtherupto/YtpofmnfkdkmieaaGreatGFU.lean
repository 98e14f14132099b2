/- What is proved here: part FU. -/
import Derived.Test.YtpofmnfkdkmieaaGreatG08
import Derived.Test.YtpofmnfkdkmieaaGreatG09
set_option linter.all false
open Bool renaming false->N,true->K
open Decidable renaming decide->cj
open Go renaming Operand->dW,execOp->aY,run_underlying->cE
open Go.BinOp renaming rem->Qk
open Go.IntKind renaming i64->gF
open Go.Op renaming equalIn->qb
open Go.Proofs.Tryz renaming ntmps36->acm,prog->T
open Go.Value renaming int->kN
open Int renaming ofNat->fW,toNat->ad
open List renaming length->Y
open Option renaming map->FI,none->Z,some->Q
open Option.some renaming inj->cx,injEq->hJ
set_option maxRecDepth 100000
set_option maxHeartbeats 4000000
noncomputable section
namespace Go.Proofs.YtpofmnfkdkmieaaGreat
open Go.Proofs.Tryz Go Go.RowKit
section
variable{y:Program}{z:au}{x:Oper}{w r:Nat}{u t:dW}{s:ac}
def akI(a:x.op=.binOp .neq w u t r)(b:y.underlying w=Q .string)(c:al z u=Q (O s))(d:al z t=Q (O s)):eb y z dT x=Q (R N):=by rw[vu a b c d];simp[aM]
end
def iY(a:Int)(b:Nat):Nat:=(ad<|(if a<0 then-(a+1)else a)%(b))
section
variable{y:au}{u:Oper}{s r:Nat}{w t:dW}{z x:Int}
def akM(a:u.op=.binOp .rem s w t r)(b:al y w=Q (V z))(c:al y t=Q (V x))(d:x≠0):eb T y dT u=Q (V<|z.tmod x):=by
 let e:gz y w=Q (.int .i64 z):=by rw[gz];rw[b];rfl
 let f:gz y t=Q (.int .i64 x):=by rw[gz];rw[c];rfl
 rw[eb,dt];rw[a];simp only[b,c,qy,sO,jm];let h:u.op.operands.toList=[w,t]:=by rw[a];rfl
 rw[h,a];simp only[co,cA,e,f,Ka,me,zb,b4];have:gQ T (aY (λz=>(gz y z).getD undef) u)=Q (.value<|.int .i64<|z.tmod x):=by simp only[aY,a];rw[e,f];show gQ T (do eqGuard Qk s w t (kN gF z) (kN gF x)Next.value<$>binOp Qk s (kN gF z) (kN gF x))=_;(let g:binOp Qk s (kN gF z) (kN gF x)=pure (.int .i64<|z.tmod x):=by simp[binOp,Op.intDiv,d]);rw[g];rfl
 rw[this];rfl
def akJ(a:u.op=.unOp .neg s w)(b:al y w=Q (V z)):eb T y dT u=Q (V<|gF.wrap<|0-z):=by
 let c:gz y w=Q (.int .i64 z):=by rw[gz];rw[b];rfl
 rw[eb,dt];rw[a];simp only[b,HO,jm];let d:u.op.operands.toList=[w]:=by rw[a];rfl
 rw[d,a];simp only[co,cA,c,Ka,me,zb,b4];have:gQ T (aY (λz=>(gz y z).getD undef) u)=Q (.value<|.int .i64<|gF.wrap<|0-z):=by simp only[aY,a];rw[c];rfl
 rw[this];rfl
def aji(a:lP (z+x)):wV .i64 z x=z+x:=by
 unfold wV;split;rename_i b c;cases d:Nat.blt (Nat.add b c) 128 with|true=>rfl|false=>exact sk _ a
 exact sk _ a
def akG(b:u.op=.binOp .add s w t r)(c:al y w=Q (V z))(d:al y t=Q (V x))(a:lP (z+x)):eb T y dT u=Q (V<|z+x):=by rw[eb,dt];rw[b];simp only[c,d,qy,sO,aji a];rfl
def XA{a}(c:u.op=.binOp .rem s w t r)(d:al y w=Q (.k<|.int .i64 z))(e:al y t=Q (.k<|.int .i64<|.ofNat a))(b:0<=z)(f:z<=9223372036854775807)(g:0<a):eb T y dT u=Q (.k<|.int .i64<|.ofNat (z%(a)).toNat):=by rw[akM c d e (by intro h;have:((a):Int)=0:=h;omega)];have i:z.tmod (fW a)=z%(a):=Int.tmod_eq_emod_of_nonneg b;have j:=Int.emod_nonneg z (b:=(a)) L;rw[i];have:fW (z%(a)).toNat=z%(a):=sc j;rw[this]
end
section
variable{x y:Nat}{z:Int}
def amI(c:lP z)(a:z<0)(b:0<y):c6 T 36 [V z,B y] x [] λf e d=>f=B (iY z y)/\e=x/\d=[]:=by refine io func36 J acm λ_ _ _ _=>?_;refine bO 12 []<|kX J (dK.2 a)<|aa 2 [] ?_;refine dZ (v:=V<|z+1) J (akG J J J (by rw[lP]at*;omega)) J ?_;refine dZ (v:=V<|-(z+1)) J (by rw[akJ J J,show(0)-(z+1)=-(z+1)by omega,sk _ (by rw[lP]at*;omega)]) J ?_;apply I 7 [];refine dZ (v:=B<|iY z y) J (by rw[XA J J J L (by rw[lP]at*;omega) b];rw[iY];rw[aC a]) J ?_;apply I 4 [];refine eg [] (.inr J) aI J A ?_;exists J,J
def amJ(c:lP z)(a:¬z<0)(b:0<y):c6 T 36 [V z,B y] x [] λg e d=>g=B (iY z y)/\e=x/\d=[]:=by refine io func36 J acm λ_ _ _ _=>?_;refine bO 12 []<|dz J (jz.2 λf=>a<|dK.1 f)<|aa 6 [] ?_;refine dZ (v:=B<|iY z y) J (by rw[XA J J J L (by rw[lP]at*;omega) b];rw[iY];rw[ak a]) J<|I 4 []<|eg [] (.inr J) aI J A ?_;exists J,J
def amH(a:lP z)(b:0<y):c6 T 36 [V z,B y] x [] λf e d=>f=B (iY z y)/\e=x/\d=[]:=by by_cases c:z<0;exact amI a c b;exact amJ a c b
end
def ag.o(q:W (ac×ac))(r:W dX->W dX)(p:Nat)(j:ag):ag:={j with m:=q,c:=r j.c,e:=p}
def Ax(c:W (ac×ac))(d:W dX->W dX)(b:Nat)(a:S Nat×ag):S Nat×ag:=(a.1,a.2.o c d b)
section
variable{u:W (ac×ac)}{w:W dX->W dX}{t:Nat}{z r:ag}{y x:bV}{s q:a8}{p:Int}{o:S Nat}
def wx:z.o z.m id z.e=z:=by cases z;rfl
def pA(w:W dX->W dX):Prop:=∀b a,w (b++[a])=w b++[a]
def LD(a):pA (a++·):=λc b=>(hG ..).symm
def Aw(d:pA w)(a b)(c):bX (z.o u w t) a b c=(bX z a b c).o u w t:=by unfold bX ag.o;simp only[d _ _]
def SX{a}:lC (z.o u w t) a=(lC z a).map (ag.o u w t):=by rw[lC];show(if a>=z.l then _ else _)=FI _ (if a>=z.l then _ else _);split<;>rfl
def SP(a:pA w)(b:q.c=s.c):∀d,cf q (z.o u w t) y d p=(cf s z y d p).map (Ax u w t)|0=>rfl|1=>rfl|2=>by unfold cf;cases y.f[(ad p)]?<;>rfl|3=>by unfold cf;rcases eH y with _|⟨v,x⟩;rfl;simp only[b2];split<;>rfl|4=>by unfold cf;rcases eH y with _|⟨v,x⟩<;>rfl|5=>by unfold cf;cases y.a.getLast?<;>rfl|6=>by unfold cf;rcases gL y with _|⟨d,l,x⟩<;>rfl|7=>by unfold cf;rcases gL y with _|⟨e,m,x⟩<;>rfl|8=>by unfold cf;rcases gL y with _|⟨f,n,x⟩<;>rfl|9=>by unfold cf;rcases gL y with _|⟨g,c,x⟩;rfl;simp only[b2];split<;>rfl|10=>rfl|11=>by unfold cf;rcases hM y with _|⟨h,x⟩<;>rfl|12=>by unfold cf;rcases gL y with _|⟨i,d,x⟩<;>rfl|13=>by unfold cf;rcases eH y with _|⟨v,x⟩<;>rfl|14=>rfl|15=>rfl|16=>rfl|17=>rfl|18=>rfl|19=>rfl|20=>rfl|21=>rfl|22=>(by unfold cf;cases y.b with|none=>rfl|some h=>exact b9 (λr=>Q (Z,r))<|Aw a 4 0<|bW z.a h)|23=>by unfold cf;rcases eH y with _|⟨v,x⟩;rfl;let⟨_,_,_,c,_,_,_,_,_,_,_,_⟩:=z;cases c<;>rfl|24=>by unfold cf;rcases iN y with _|⟨_|o,x⟩<;>rfl|25=>rfl|26=>by unfold cf;rcases eH y with _|⟨v,x⟩<;>rfl|27=>by unfold cf;rcases hM y with _|⟨e,x⟩;rfl;exact b9 (λr=>Q (Z,r))<|Aw (z:=aV z x) a 1 e bU|28=>by unfold cf;let⟨_,_,_,_,_,_,c,_,_,_,_,_⟩:=z;rw[b];show(match s.c[c]? with|Q b=>_|Z=>_)=FI _ (match s.c[c]? with|Q j=>_|Z=>_);cases s.c[c]?<;>rfl|29=>by unfold cf;rcases hM y with _|⟨f,x⟩;rfl;simp only[b2];split;rfl;rw[SX];cases lC z f<;>rfl|30=>(by unfold cf;rcases hM y with _|⟨g,x⟩;rfl;simp only[b2];rcases kT x with _|⟨_|j,b⟩;rfl;rfl;let⟨_,_,_,_,_,_,_,_,_,_,_,m⟩:=z;simp only[b2,ag.o];cases m[j]? with|none=>rfl|some i=>simp only[b2];split;rfl;cases i[(ad g)]?<;>rfl)|31=>(by unfold cf;rcases gL y with _|⟨k,a,x⟩;rfl;simp only[b2];rcases kT x with _|⟨_|k,e⟩;rfl;rfl;let⟨_,_,_,_,_,_,_,_,_,_,_,n⟩:=z;simp only[b2,ag.o];cases n[k]? with|none=>rfl|some h=>simp only[b2];split<;>rfl)|32=>by unfold cf;rcases kT y with _|⟨_|l,f⟩;rfl;rfl;let⟨_,_,_,_,_,_,_,_,_,_,_,a⟩:=z;simp only[b2,ag.o];cases a[l]?<;>rfl|g+33=>rfl
def R4(c:q.b=s.b){a b}:lA q (z.o u w t) y a b=(lA s z y a b).map (Ax u w t):=by rw[lA,tt];rw[c];show(if cj (Y (aV z y).b=s.b)=K then _ else _)=FI _ (if cj (Y (aV z y).b=s.b)=K then _ else _);split;rfl;show(tw y<|lX<|cu z.a a b).bind _=FI _ ((tw y<|lX<|cu z.a a b).bind _);rcases tw y (lX<|cu z.a a b)with _|⟨d,x⟩<;>rfl
def LN(b:q.b=s.b){c d}(a:dP s z y c d=Q (o,r)):dP q (z.o u w t) y c d=Q (o,r.o u w t):=by
 unfold dP at a;split at a;cases a;rfl;next g=>split at a;show(match lC (z.o u w t) (Y<|c5 z.a g)with|Z=>_|Q r=>_)=_;rw[SX];split at a;(next e=>rw[e];cases a;rfl);(next e f=>rw[f];cases a;rfl);split at a;(next l c=>rw[dP];simp only[c];split at a;(next j=>cases a;exact aC j);next k=>cases a;exact ak k);cases a;split at a;(next m x d=>rw[dP];simp only[d];cases a;rfl);cases a;cases a
 split at a;let⟨⟨h,x⟩,k,a⟩:=ay.1 a;refine ay.2 ⟨_,k,?_⟩;cases h with|none=>cases a;rfl|some n=>let⟨e,d,a⟩:=ay.1 a;let⟨v,h,a⟩:=ay.1 a;refine ay.2 ⟨e,d,ay.2 ⟨v,h,?_⟩⟩;cases a;rfl
 let⟨⟨v,x⟩,l,a⟩:=ay.1 a;let⟨⟨i,j⟩,e,a⟩:=ay.1 a;refine ay.2 ⟨_,l,ay.2 ⟨_,e,?_⟩⟩;cases i with|none=>cases a;rfl|some c=>let⟨f,i,a⟩:=ay.1 a;refine ay.2 ⟨f,i,?_⟩;split at a;(next l=>cases a;exact aC l);cases a
 let⟨h,m,a⟩:=ay.1 a;let⟨v,f,a⟩:=ay.1 a;refine ay.2 ⟨h,m,ay.2 ⟨v,f,?_⟩⟩;cases a;rfl;let⟨⟨v,x⟩,n,a⟩:=ay.1 a;let⟨i,g,a⟩:=ay.1 a;refine ay.2 ⟨_,n,ay.2 ⟨i,g,?_⟩⟩;split at a;next m=>cases a;exact aC m
 cases a;cases a;split at a;let⟨v,c,a⟩:=ay.1 a;refine ay.2 ⟨v,c,?_⟩;cases v with|a=>cases a;rfl|c k=>simp only at a⊢;split at a;(next j g n=>have:lB (z.o u w t).a (eV (z.o u w t) k) (cu (z.o u w t).a _ _)=Q (j,g):=n;rw[this];exact(R4 b).trans (by rw[a];rfl));cases a|b p=>cases a|d d=>cases a
 exact(R4 b).trans (by rw[a];rfl);cases a
end
def fY(a b:a8)(c:ag):Prop:=∀d∈c.c,d.a=2->gK b d.b=gK a d.b
section
variable{w:W (ac×ac)}{x:W dX->W dX}{u:Nat}{z r:ag}{q p:bV}{y t:a8}{s:Int}{o:S Nat}
def ja.c(d:r.c=z.c):ja z r:=⟨[],by rw[d,eF]⟩
def fY.b(c:fY y t r)(d:ja z r):fY y t z:=λe f=>by let⟨h,g⟩:=d;exact c e<|g▸bS _ f
def fY.a(y)(z):fY y y z:=λ_ _ _=>rfl
def adG(s)(a)(z)(b:b5 z.d a=Z):∃d∈(dN y (s+1) a z).2.c,d.a=2/\d.b=a:=by
 let e:ja (bX {z with d:=eu z.d a<|.a cL} 2 0 a) (dN y (s+1) a z).2:=by rw[dN];rw[b];simp only;split;exact⟨[],(eF _).symm⟩;next i _=>let c:=De (u:=y) s i.b<|bX {z with d:=eu z.d a<|.a cL} 2 0 a;split;(next j l f=>rw[f]at c;apply c.a;rw[gJ];simp only;split;exact⟨[],(eF _).symm⟩;split<;>exact⟨[],(eF _).symm⟩);next t m _ g=>rw[g]at c;exact c.a ⟨[],(eF _).symm⟩
 let⟨k,h⟩:=e;refine⟨⟨2,0,a⟩,?_,J,J⟩;rw[h];exact bS _<|bo _<|.head _
def adJ{c}[Decidable c]{a b:dx×ag}:((if c then a else b).1,(if c then a else b).2.o w x u)=if c then(a.1,a.2.o w x u)else(b.1,b.2.o w x u):=by split<;>rfl
def adl{a b}:gJ (z.o w x u) a b=((gJ z a b).1,(gJ z a b).2.o w x u):=by unfold gJ;simp only[adJ];rfl
def So(a:pA x):∀(s)(b)(z),fY y t (dN y s b z).2->dN t s b (z.o w x u)=((dN y s b z).1,(dN y s b z).2.o w x u)|0,_,_,_=>rfl|s+1,b,z,c=>by cases d:b5 z.d b with|some v=>(have o:dN y (s+1) b z=(v,z):=by rw[dN];rw[d]);(have p:dN t (s+1) b (z.o w x u)=(v,z.o w x u):=by rw[dN];rw[show b5 (z.o w x u).d b=Q v from d]);rw[o,p]|none=>obtain⟨l,q,m,n⟩:=adG s b z d;have r:gK t b=gK y b:=n▸c l q m;have hc:bX {z.o w x u with d:=eu (z.o w x u).d b<|.a cL} 2 0 b=(bX {z with d:=eu z.d b<|.a cL} 2 0 b).o w x u:=Aw (z:={z with d:=eu z.d b<|.a cL}) a 2 0 b;revert c;unfold dN;rw[d,show b5 (z.o w x u).d b=Z from d,r,hc];simp only;generalize bX {z with d:=eu z.d b<|.a cL} 2 0 b=g;intro c;cases hb:gK y b with|error hf=>rfl|ok f=>rw[hb]at c;simp only at c⊢;have e:=So a s f.b g;generalize dN y s f.b g=hd at c e;obtain⟨v,h⟩:=hd;cases v with|b k=>(have ha:ja h (gJ h f k).2:=by rw[gJ];simp only;split;(·exact⟨[],(eF _).symm⟩);·split<;>exact⟨[],(eF _).symm⟩);rw[e<|fY.b c ha];simp only;rw[adl];rfl|c i j=>rw[e c];rfl|d i j=>rw[e c];rfl|a he=>rw[e c];rfl
def Am(c:pA x){a}(b:fY y t (et y a z).2):et t a (z.o w x u)=((et y a z).1,(et y a z).2.o w x u):=So c 42 a z b
def aeq{a}:je (z.o w x u) a=(je z a).map (ag.o w x u):=by unfold je;cases il a with|none=>rfl|some b=>simp only;show(if(b.all λp=>match gu z p.b with|Q c=>dC z.a c p.a|Z=>K)=K then _ else _)=FI _ (if(b.all λp=>match gu z p.b with|Q d=>dC z.a d p.a|Z=>K)=K then _ else _);split<;>rfl
def Gw(w:W (ac×ac))(x:W dX->W dX)(u:Nat)(a:S Nat×aJ×ag):S Nat×aJ×ag:=(a.1,a.2.1,a.2.2.o w x u)
def R9(b:pA x){a}:eW (z.o w x u) a=(eW z a).o w x u:=Aw (z:=dn z a .a) b 5 0<|bW z.a a
def adV(b:pA x)(c:t.b=y.b){a}:gb t (z.o w x u) a=Ax w x u (gb y z a):=by rw[gb];let e:bX (dn (z.o w x u) a .b) 3 0 (bW (z.o w x u).a a)=(bX (dn z a .b) 3 0<|bW z.a a).o w x u:=Aw (z:=dn z a .b) b 3 0<|bW z.a a;simp only;rw[e];show(match lV (ax z.a a) qi with|Z=>_|Q f=>_)=Ax w x u (match lV (ax z.a a) qi with|Z=>_|Q g=>_);generalize bX (dn z a .b) 3 0 (bW z.a a)=d;cases lV (ax z.a a) qi with|none=>exact b9 (λr=>(Z,r))<|Aw b 4 0<|bW z.a a|some h=>rw[tt];rw[c];show(if cj (Y d.b=y.b)=K then _ else _)=Ax w x u (if cj (Y d.b=y.b)=K then _ else _);split;rw[R9 b];rfl;rfl
def Av(c:pA x)(b:t.b=y.b){a}:dO t (z.o w x u) a=Gw w x u (dO y z a):=by rw[dO];show(if eO z.a a=.b then _ else _)=Gw w x u (if eO z.a a=.b then _ else _);split;rfl;simp only;show(if eO z.a (eX z.a a)=.a then _ else _)=Gw w x u (if eO z.a (eX z.a a)=.a then _ else _);split;rfl;let e:je (z.o w x u) (ax (z.o w x u).a<|eX (z.o w x u).a a)=(je z<|ax z.a<|eX z.a a).map (ag.o w x u):=aeq;rw[e];cases je z (ax z.a<|eX z.a a)with|none=>rfl|some d=>simp only[dD];let f:gb t (d.o w x u) (eX (z.o w x u).a a)=Ax w x u (gb y d<|eX z.a a):=adV c b;rw[f];generalize gb y d (eX z.a a)=g;obtain⟨_|o,h⟩:=g<;>rfl
def LM(z):({z with c:=[]}:ag).o z.m (z.c++·) z.e=z:=by cases z;simp[ag.o]
def S6{a}:ja z (dO y z a).2.2:=by let b:=Av (t:=y) (z:={z with c:=[]}) (w:=z.m) (u:=z.e) (LD z.c) J (a:=a);rw[LM]at b;rw[b];exact⟨_,J⟩
def Gq{a}:(dO y z a).2.2.e=z.e:=by let b:=Av (t:=y) (z:=z) (w:=z.m) (x:=id) (u:=z.e) (λ_ _=>rfl) J (a:=a);rw[wx]at b;rw[b];rfl
def Th{b c}(a:dP y z q b c=Q (o,r)):ja z r/\r.e=z.e:=by
 let d:=LN (u:=z.m) (w:=λ_=>z.c) (t:=z.e) J a;rw[show z.o z.m (λ_=>z.c) z.e=z from by cases z;rfl,a]at d;let e:r=r.o z.m (λ_=>z.c) z.e:=by injection d with d;injection d
 rw[e];exists .c J
def aej{a}(b:cf y z q a s=Q (o,r)):ja z r/\r.e=z.e:=by let c:=SP (q:=y) (z:={z with c:=[]}) (u:=z.m) (t:=z.e) (y:=q) (p:=s) (LD z.c) J a;rw[LM,b]at c;cases d:cf y {z with c:=[]} q a s with|none=>rw[d]at c;cases c|some e=>rw[d]at c;cases c;exists⟨_,J⟩
def Sw(d:pA x){b a}(c:fY y t (gt y z q b a).2):gt t (z.o w x u) q b a=((gt y z q b a).1,(gt y z q b a).2.o w x u):=by revert c;rw[gt];show fY y t (match jf z q with|Q t=>_|Z=>_:dx×ag).2->(match jf z q with|Q t=>_|Z=>_)=_;cases jf z q with|some v=>exactλ_=>rfl|none=>simp only;intro c;let e:=c;(let f:fk t (z.o w x u) b a=((fk y z b a).1,(fk y z b a).2.o w x u):=by(let h:(fk y z b a).2=(et y a.b z).2:=by rw[fk];generalize et y a.b z=i;let⟨v,r⟩:=i;cases v<;>rfl);rw[h]at e;let g:=Am (w:=w) (u:=u) d e;unfold fk;rw[g];generalize et y a.b z=j;let⟨v,r⟩:=j;cases v<;>rfl);rw[f];rfl
def adQ{b a}:ja z (gt y z q b a).2:=by
 rw[gt];split;exact .b z;let c:ja z (et y a.b z).2:=De 42 a.b z;let d:(fk y z b a).2=(et y a.b z).2:=by rw[fk];generalize et y a.b z=e;let⟨v,r⟩:=e;cases v<;>rfl
 rwa[<-d]at c
end
def eA.g(i:W (ac×ac))(j:W dX->W dX)(h:Nat):eA->eA|.a=>.a|.c l=>.c (l.o i j h)|.b k m=>.b k (m.o i j h)
def eA.e(h:ag->Prop):eA->Prop|.a=>False|.c i=>h i|.b _ j=>h j
def F6(a b:ag):Prop:=ja a b/\b.e=a.e
section
variable{u:W (ac×ac)}{w:W dX->W dX}{r:Nat}{z s l:ag}{y:bV}{t q:a8}{m:Int}{x:S Nat}{p:eA}{o:c3}{n:Nat}
def adN{a}:(gt t z y n a).2.e=z.e:=by let b:=Sw (t:=t) (z:=z) (q:=y) (b:=n) (a:=a) (w:=z.m) (x:=id) (u:=z.e) (λ_ _=>rfl)<|fY.a _ _;rw[wx]at b;let c:=b9 Prod.snd b;rw[show(gt t z y n a).2=_ from c];rfl
def eA.f{h}(i:eA.d h=p)(j:p≠.a):∃x s,h=Q (x,s)/\p=.b x s:=by rcases h with _|⟨x,s⟩;exact aE i.symm j;exact⟨x,s,J,i.symm⟩
def SJ(d:pA w)(c:q.b=t.b)(a:mS t z y o n=p)(e:p≠.a)(b:p.e (fY t q)):mS q (z.o u w r) y o n=p.g u w r/\p.e (F6 z):=by have i:=Sw (y:=t) (t:=q) (z:=z) (q:=y) (b:=n) (a:=o.a) (w:=u) (u:=r) d;have j:=adQ (y:=t) (z:=z) (q:=y) (b:=n) (a:=o.a);have k:=adN (t:=t) (z:=z) (y:=y) (n:=n) (a:=o.a);unfold mS at a⊢;simp only at a⊢;generalize gt t z y n o.a=g at a i j k;let⟨f,hc⟩:=g;simp only at a i j k;cases m:(if qj (ad o.b)then jD f else Z)with|none=>rw[m]at a;obtain⟨x,s,hb,rfl⟩:=eA.f a e;have h:=Th hb;rw[i<|b.b h.1];simp only[m];rw[LN c hb];exact⟨J,j.a h.1,h.2.trans k⟩|some g=>simp only[m]at a;have ha:=Av (z:=aV hc y) (w:=u) (u:=r) d c (a:=g);have f:=S6 (y:=t) (z:=aV hc y) (a:=g);have v:=Gq (y:=t) (z:=aV hc y) (a:=g);generalize d:dO t (aV hc y) g=hd at a ha f v;let⟨x,d,s⟩:=hd;have f:=f;have v:=v;have ha:dO q (aV (hc.o u w r) y) g=(x,d,s.o u w r):=ha;cases x with|some x=>simp only at a;subst a;rw[i<|fY.b b f];simp only[m,ha];exact⟨J,j.a f,v.trans k⟩|none=>cases d with|false=>simp only at a;subst a;rw[i<|fY.b b f];simp only[m,ha];exact⟨J,j.a f,v.trans k⟩|true=>simp only at a;obtain⟨x,l,hb,rfl⟩:=eA.f a e;have h:=Th hb;have a:=h.1;rw[i<|fY.b b<|f.a a];simp only[m,ha];have b:=LN (u:=u) (w:=w) (t:=r) c hb;exact⟨b9 eA.d b,(j.a f).a a,(h.2.trans v).trans k⟩
def SM(c:pA w)(d:q.c=t.c){a}(b:eA.d (cf t z y a m)=p)(e:p≠.a):eA.d (cf q (z.o u w r) y a m)=p.g u w r/\p.e (F6 z):=by obtain⟨x,s,f,rfl⟩:=eA.f b e;rw[SP c d,f];exact⟨J,aej f⟩
def ady(c:pA w)(e:q.b=t.b)(f:q.c=t.c)(a:ii t z y=p)(b:p≠.a)(d:p.e (fY t q)):ii q (z.o u w r) y=p.g u w r/\p.e (F6 z):=by rw[ii]at a⊢;cases i:y.e with|some x=>rw[i]at a;subst a;exists J,.c J|none=>rw[i]at a;simp only at a⊢;show(match(cu z.a y.g y.h).c[y.c]? with|Z=>_|Q o=>_)=_/\_;cases h:(cu z.a y.g y.h).c[y.c]? with|none=>rw[h]at a;exact aE a.symm b|some o=>rw[h]at a;simp only at a⊢;cases g:eM (ad o.b)with|none=>rw[g]at a;exact SM c f a b|some n=>rw[g]at a;simp only at a⊢;split at a;(next l=>rw[aC l];cases j:lU y with|none=>rw[j]at a;exact aE a.symm b|some k=>rw[j]at a;cases k with|true=>exact SM c f a b|false=>exact SJ c e a b d);next m=>rw[ak m];exact SJ c e a b d
def Gt(a:pA w){x}:∀{b z},hO (z.o u w r) x b=(hO z x b).o u w r|[],_=>rfl|y::d,z=>by rw[hO];show(match mj z y x with|Q h=>_|Z=>_)=ag.o u w r (match mj z y x with|Q i=>_|Z=>_);cases mj z y x with|some j=>rfl|none=>simp only;cases y.b with|none=>exact Gt a|some e=>simp only;let f:eW {z.o u w r with b:=d} e=(eW {z with b:=d} e).o u w r:=R9 (z:={z with b:=d}) a;rw[f];generalize eW {z with b:=d} e=c;(let g:eN (c.o u w r) x=((eN c x).1,(eN c x).2.o u w r):=by unfold eN;show(if dC c.a (eV c x) jB=K then _ else _)=((if dC c.a (eV c x) jB=K then _ else _:Nat×ag).1,_);split<;>rfl);rw[g];cases d<;>rfl
def LJ{x a}:F6 z (hO z x a):=by constructor;let b:=Gt (z:={z with c:=[]}) (u:=z.m) (r:=z.e) (LD z.c) (x:=x) (b:=a);rw[LM]at b;rw[b];exact⟨_,J⟩;let c:=Gt (z:=z) (u:=z.m) (w:=id) (r:=z.e) (λ_ _=>rfl) (x:=x) (b:=a);rw[wx]at c;rw[c];rfl
def C8(z s:ag):Prop:=ja z s/\(s.e=z.e\/s.e=z.e+1)
def Gs(c:pA w)(d:q.b=t.b)(e:q.c=t.c)(a:lW t z=Q s)(b:fY t q s):lW q (z.o u w z.e)=Q (s.o u w s.e)/\C8 z s:=by rw[lW]at a⊢;show(match z.b with|[]=>_|y::g=>_)=_/\_;cases n:z.b with|nil=>rw[n]at a;cases a|cons y g=>rw[n]at a;simp only at a⊢;have o:=λf b=>ady (u:=u) (r:=z.e) (z:={z with b:=g}) (y:={y with c:=y.d,d:=y.d+1}) c d e J f b;generalize h:ii t {z with b:=g} {y with c:=y.d,d:=y.d+1}=p at a o;cases p with|a=>cases a|c e=>simp only at a;have a:=cx a;subst a;let⟨k,v,h⟩:=o az b;have k:ii q {z.o u w z.e with b:=g} {y with c:=y.d,d:=y.d+1}=.c (e.o u w z.e):=k;have h:=h;rw[k];simp only;refine⟨?_,v,.inl h⟩;have r:Y (ag.o u w z.e z).b=Y (y::g):=b9 Y n;rw[r,h];rfl|b x f=>simp only at a;have a:=cx a;(have j:C8 {f with e:=f.e+1} s/\s.e=f.e+1:=by rw[<-a];cases x with|none=>exists⟨.b _,.inl J⟩|some x=>exact⟨⟨LJ.1,.inl LJ.2⟩,LJ.2⟩);let⟨l,m,i⟩:=o az<|fY.b b (z:=f) j.1.1;have l:ii q {z.o u w z.e with b:=g} {y with c:=y.d,d:=y.d+1}=.b x (f.o u w z.e):=l;have i:=i;have m:=m;have b:=j.1.1;rw[l];simp only;refine⟨?_,m.a b,.inr<|j.2▸i▸J⟩;(have d:({f.o u w z.e with e:=(f.o u w z.e).e+1})=({f with e:=f.e+1}).o u w s.e:=by rw[j.2,i];rfl);rw[d,<-a];cases x with|none=>rfl|some x=>exact b9 Q<|Gt c
def LH(a:lW t z=Q s):C8 z s:=(Gs (u:=[]) (w:=id) (λ_ _=>rfl) J J a<|fY.a t s).2
end
def sl(a b:ag):Prop:=ja a b/\a.e<=b.e
section
variable{z y u:ag}{t:a8}{s:Int×ac×ag}{r w x:Nat}
def sl.a(z):sl z z:=⟨.b z,bd _⟩
def sl.b(c:sl z y)(w:sl y u):sl z u:=⟨c.1.a w.1,df c.2 w.2⟩
def C8.a(b:C8 z y):sl z y:=⟨b.1,by rcases b.2 with b|b<;>omega⟩
def yk:∀{x z},fQ t x z=Q s->sl z s.2.2|0,_,b=>by cases b|x+1,z,a=>by rw[fQ]at a;split at a;split at a<;>(cases a;exact .a z);split at a;cases a;exact .a z;let⟨y,c,d⟩:=ay.1 a;exact(LH c).a.b<|yk d
def Gp:∀{x z},kU t r w x z=Q s->sl z s.2.2|0,_,e=>by cases e|x+1,z,b=>by have d:sl z (dO t z r).2.2:=⟨S6,aaP Gq.symm⟩;rw[kU]at b;generalize dO t z r=h at b d;let⟨g,i,y⟩:=h;cases g with|some k=>cases b;exact d|none=>let⟨⟨l,j,u⟩,f,a⟩:=ay.1 b;have c:=d.b<|yk f;simp only at a;split at a;split at a;exact c.b<|yk (z:=ga u r w [] Z) a;exact c.b<|Gp a;cases a;exact c
end
def api(c)(b e)(d)(a):(qb (c+2) 98 (.agg #[.int .i64 b,.int .i64 e,.string d])<|.agg #[.int .i64 b,.int .i64 e,.string d]).run T a=.ok K a:=by
 let h:T.stoodInHeld 98=N:=M
 let f:=λb a=>run_equalIn_int a c 3 .i64 .i64 b b<|C3 J;let g:=λa=>run_equalIn_string a c 9 d d<|to J;let i:=underlying98;rw[show c+2=(c+1)+1 from rfl,qb];simp only[Sem.run_bind,cE i,Result.andThen_ok,run_program,h,ie,gV];simp[part,isAgg,cE<|C3 (b:=3) J,cE<|to (a:=9) J,f,g]
def Yh{o k j h e d}{p:Nat}{f g:dW}{a b:Int}{c:ac}(l:bx d h e.guard=Q K)(i:e.op=.binOp .neq 98 f g p)(m:al d f=Q (.b [V a,V b,O c]))(n:al d g=Q (.b [V a,V b,O c])):pD T o k j h e ⟨d,R N⟩:=by refine .inr ⟨l,(λj r=>by rw[i]at r;cases r),λk e z d q h y u=>⟨_,q,.inl ?_,J,y⟩⟩;let s:=u.a m;let t:=u.a n;simp only[aT,bm,dD,hJ]at s t;simp only[aY,i];rw[<-s,<-t];let v:=run_eqGuard_agg (P:=T) q .neq 98 f g #[.int .i64 a,.int .i64 b,.string c] #[.int .i64 a,.int .i64 b,.string c] M;let w:=run_neq_struct (P:=T) q 98 #[.int .i64 a,.int .i64 b,.string c] #[.int .i64 a,.int .i64 b,.string c];let x:=api 9998 a b c q;simp[v,w,x]
section
variable{y:U}{t:Nat}{x w:Int}{u:ac}{s r:X}{z:W dX}
def an1(a:aK y 3 s (z.map e5))(b:aK y 3 r (z.map e5))(c:Y z<=2000000):bZ y T 40 [.b [V x,O u,s,V w],.b [V x,O u,r,V w]] (λd=>d=R K) H:=by refine bZ.a (λt=>?_) (λ_ m _ _=>by rw[m];rfl);refine ai func40 14 [1,0] λp=>?_;refine cl (v:=R N) (zc J J J J) ?_;apply I 5 [1,0];refine cl (v:=R N) (akI J M J J) ?_;apply I 6 [1,0];refine cl (v:=R N) (zc J J J J) ?_;apply I 4 [1];refine ck a (bk ..) ?_;apply I 2 [0];refine ck b (bk ..) ?_;refine cl (v:=R N) (zc J J J J) ?_;apply I 13 [];refine gN (g:=Unit) (Y z) (λi k=>True) (λc l=>[(2,X.a t 0),(3,X.a (t+1) 0),(5,B c)]) (λj m=>[(t,P.a [V x,O u,s,V w]),((t+1),P.a [V x,O u,r,V w])]) () [1,0] (C) er J λj n e q g=>?_;apply bO 6 [0];refine ck a (bk ..) ?_;apply I 3 [];refine aP J (λg=>?_)<|λg=>?_;let i:=cM g;let⟨d,h⟩:=a1 i;let n:=a.d (o:=T) (show(z.map e5)[j]?=Q (e5 d)by rw[cv,h];rfl);let o:=b.d (o:=T) (show(z.map e5)[j]?=Q (e5 d)by rw[cv,h];rfl);apply aa 5 [];let⟨k,b,v,e⟩:=n;let⟨l,h,a,f⟩:=o;refine bD (j:=1) bC p ?_;refine bF (c:=[0,1]) (a:=[(3,X.a k b),(4,X.b [V d.a,V d.c,O d.b]),(8,X.a l h),(9,X.b [V d.a,V d.c,O d.b]),(10,R N)]) (hk:=⟨λ_ _ _=>b6 J<|e.a J J J M,λ_ _ v=>bL J J J (v _ e.b)<|e.d M M,λ_ _ _=>b6 J<|f.a J J J M,λ_ _ a=>bL J J J (a _ f.b)<|f.d M M,λ_ _ _=>(Yh J J J J),C⟩) [0,1,2,3,4,5,6,7,8,9,10] ?_;apply aL .a 7 [];refine cH ?_;refine I 2 [] ?_;exact eI () [0,1] i (C) er<|J;let f:=e6 q g;refine aa 2 [] ?_;refine ch ?_;refine aL (.b _) 8 [] ?_;refine af [] J ?_;rfl
def YD{c a d b}(e:x=c)(f:u=d)(g:w=a)(h:z=b)(i:aK y 3 s (z.map e5))(j:aK y 3 r (b.map e5))(k:Y z<=2000000):bZ y T 40 [.b [V x,O u,s,V w],.b [V c,O d,r,V a]] (λl=>l=R K) H:=by subst e f g h;exact an1 i j k
end
section
variable{z:U}{y:Nat}
def Od{a b}(c:lP a)(d:0<b):bZ z T 36 [V a,B b] (λg=>g=B (iY a b)) H:=λy=>((amH c d).a).a (λ_ _ _ e=>e) λ_ f=>f
end
