/- What is proved here: a region that draws its order, in which  -/
import Derived.Test.YtpofmnfkdkmieaaGreatQ10
set_option linter.unusedVariables false
set_option linter.unusedSimpArgs false
namespace Go.Proofs.YtpofmnfkdkmieaaGreat
namespace S
open Go Go.RowKit E
theorem Hx.trans {T:List Nat} {N0 N:Nat} {G0 G G':Nat->Option SB} {H H':Ch} (h:Hx T N0 G0 H G) (hN:N0<=N) (hc:Hx (H.map (·.1)) N G H' G'):Hx T N0 G0 H' G':=by
 have hTin:∀ x ∈ H.map (·.1),x ∈ T\/N0<=x:=fun x hx=>by
  obtain ⟨p,hp,rfl⟩:=List.mem_map.1 hx;exact h.mine p hp
 refine ⟨hc.hs,fun q x hq hT=>hc.old q x (h.old q x hq hT) (fun hm=>?_),fun p hp=>?_,h.fr0⟩
 ·rcases hTin q hm with h1 | h1
  ·exact hT h1
  ·rw [h.fr0 q h1] at hq;cases hq
 ·rcases hc.mine p hp with hm | hm
  ·exact hTin _ hm
  ·exact .inr (by omega)
theorem Hx.start {N:Nat} {G:Nat->Option SB} {H:Ch} (h:Hs H G) (hfr:∀ i,N<=i->G i=none):Hx (H.map (·.1)) N G H G:=⟨h,fun _ _ hq _=>hq,fun p hp=>.inl (List.mem_map.2 ⟨p,hp,rfl⟩),hfr⟩
def Pv (o:Oper) (j:Nat):Bool:=o.after.toList.any fun e=>Region.binds .any e&&Nat.beq e.on j
theorem U4 {o:Oper} {j:Nat}:Pv o j=true↔∃ e,e ∈ o.after/\Region.binds .any e=true/\e.on=j:=by
 unfold Pv;rw [List.any_eq_true];constructor
 ·rintro ⟨e,he,h⟩;rw [Bool.and_eq_true] at h;exact ⟨e,by simpa using he,h.1,Nat.eq_of_beq_eq_true h.2⟩
 ·rintro ⟨e,he,h1,rfl⟩;exact ⟨e,by simpa using he,by rw [h1,Nat.beq_refl];rfl⟩
def Vn (L:List Oper):Nat->Oper->Nat->Bool
 | 0,o,j=>Pv o j
 | f+1,o,j=>Pv o j || o.after.toList.any fun e=>Region.binds .any e&&(match L[e.on]? with
  | some q=>Vn L f q j
  | none=>false)
theorem Oc {L:List Oper} (hedge:∀ (i:Nat) (o:Oper) (e:Edge),L[i]?=some o->e ∈ o.after->Region.binds .any e=true->e.on<i):∀ (f:Nat) (i:Nat) (o:Oper) (j:Nat),L[i]?=some o->Vn L f o j=true->j<i
 | 0,i,o,j,ho,h=>by
  obtain ⟨e,he,hb,rfl⟩:=U4.1 h;exact hedge i o e ho he hb
 | f+1,i,o,j,ho,h=>by
  simp only [Vn,Bool.or_eq_true,List.any_eq_true,Bool.and_eq_true] at h;rcases h with h | ⟨e,he,hb,hr⟩
  ·obtain ⟨e,he,hb,rfl⟩:=U4.1 h;exact hedge i o e ho he hb
  ·have hlt:=hedge i o e ho (by simpa using he) hb;cases hq:L[e.on]? with
   | none=>rw [hq] at hr;cases hr
   | some q =>
    rw [hq] at hr;exact Nat.lt_trans (Oc hedge f e.on q j hq hr) hlt
theorem Ww {L:List Oper} {ls:Array Bool} (hcl:∀ (i:Nat) (o:Oper) (e:Edge),L[i]?=some o->ls.getD i false=true->e ∈ o.after->Region.binds .any e=true->ls.getD e.on false=true):∀ (f:Nat) (o:Oper) (j:Nat),(∀ e ∈ o.after,Region.binds .any e=true->ls.getD e.on false=true)->Vn L f o j=true->ls.getD j false=true
 | 0,o,j,ha,h=>by
  obtain ⟨e,he,hb,rfl⟩:=U4.1 h;exact ha e he hb
 | f+1,o,j,ha,h=>by
  simp only [Vn,Bool.or_eq_true,List.any_eq_true,Bool.and_eq_true] at h;rcases h with h | ⟨e,he,hb,hr⟩
  ·obtain ⟨e,he,hb,rfl⟩:=U4.1 h;exact ha e he hb
  ·have hl:=ha e (by simpa using he) hb;cases hq:L[e.on]? with
   | none=>rw [hq] at hr;cases hr
   | some q =>
    rw [hq] at hr;exact Ww hcl f q j (fun e' he' hb'=>hcl e.on q e' hq hl he' hb') hr
def V7 (i:Nat):List Nat->Nat->Option Nat
 | [],_=>none
 | e::r,j=>bif Nat.beq i e then some j else V7 i r (j+1)
theorem Uo {i:Nat}:∀ {ef:List Nat} {b j:Nat},V7 i ef b=some j->∃ k,j=b+k/\ef[k]?=some i
 | [],b,j,h=>by cases h
 | e::r,b,j,h=>by
  unfold V7 at h;cases hb:Nat.beq i e with
  | true=>rw [hb] at h;cases h;exact ⟨0,J,by have:=Nat.eq_of_beq_eq_true hb;subst this;rfl⟩
  | false =>
   rw [hb] at h;obtain ⟨k,hk,he⟩:=Uo (ef:=r) h;exact ⟨k+1,by omega,by simpa using he⟩
theorem Rr {i:Nat}:∀ {ef:List Nat} {b:Nat},V7 i ef b=none->i ∉ ef
 | [],b,h=>by simp
 | e::r,b,h=>by
  unfold V7 at h;cases hb:Nat.beq i e with
  | true=>rw [hb] at h;cases h
  | false =>
   rw [hb] at h;have:=Rr (ef:=r) h;intro hm;rcases List.mem_cons.1 hm with rfl | hm
   ·rw [Nat.beq_refl] at hb;cases hb
   ·exact this hm
def Nn (L:List Oper) (ef:List Nat) (i:Nat) (o:Oper) (k:Nat):Bool:=U6 (fun j e=>(!(Vn L 2 o e) || Nat.blt j k)&&(!(match L[e]? with
 | some q=>Vn L 2 q i
 | none=>false) || Nat.ble k j)) 0 ef
def ckEf (L:List Oper) (ef:List Nat):Bool:=U6 (fun j e=>match L[e]? with
 | some q=>(match j with
  | 0=>true
  | j+1=>(match ef[j]? with
   | some e'=>Vn L 2 q e'
   | none=>false))
 | none=>false) 0 ef
abbrev Phs:=List (Nat × Ch)
def QEs (P:Program) (n:Nat) (all:Array Oper) (o:Oper) (Er:SE) (v:SV) (ok:Nat->Bool):Nat->Phs->Prop
 | _,[]=>True
 | k,p::r=>(ok k=true->∀ G,Hs p.2 G->Uv P n p.1 G all o ⟨Er,v⟩)/\QEs P n all o Er v ok (k+1) r
def HE (P:Program) (l:Option Nat) (n:Nat) (all:Array Oper) (D:List SD) (o:Oper) (Er:SE) (v:SV) (N:Nat) (H:Ch) (N':Nat) (H':Ch):Prop :=
 ∀ w0 F B0 N0 T G0 Q,HL P l n all w0 F B0 N0 T G0 Q [] (Ve o v Er) D N' H'->HL P l n all w0 F B0 N0 T G0 Q [o] Er D N H
def QE (P:Program) (l:Option Nat) (n:Nat) (D:List SD) (L:List Oper) (ef:List Nat) (phs:Phs) (i:Nat) (o:Oper) (Er:SE) (v:SV):Prop :=
 (V7 i ef 0=none/\QEs P n L.toArray o Er v (Nn L ef i o) 0 phs)\/∃ j N H N' H',V7 i ef 0=some j/\phs[j]?=some (N,H)/\phs[j+1]?=some (N',H')/\HE P l n L.toArray D o Er v N H N' H'
def QW (P:Program) (l:Option Nat) (n:Nat) (D:List SD) (L:List Oper) (ef:List Nat) (phs:Phs):Nat->List Oper->List SV->SE->Prop
 | _,[],[],_=>True
 | i,o::r,v::vs,E=>QE P l n D L ef phs i o (erOf L.toArray E o) v/\QW P l n D L ef phs (i+1) r vs (Ve o v E)
 | _,_,_,_=>False
section
variable {P:Program} {l:Option Nat} {n:Nat} {w0:World} {F:List Nat} {B B0:Nm} {N N0:Nat} {T:List Nat} {G0:Nat->Option SB} {H:Ch} {E Er:SE} {D:List SD} {Q:Exit->Act->World->Prop} {L:List Oper} {ef:List Nat} {phs:Phs} {i:Nat} {o:Oper} {v:SV} {a:Act} {w w':World}
theorem Jc {all:Array Oper} {ok:Nat->Bool}:∀ {phs:Phs} {b:Nat},QEs P n all o Er v ok b phs->∀ k p,phs[k]?=some p->ok (b+k)=true->∀ G,Hs p.2 G->Uv P n p.1 G all o ⟨Er,v⟩
 | [],b,_,k,p,hk,_=>by simp at hk
 | q::r,b,h,0,p,hk,hok=>by
  simp at hk;subst hk;exact h.1 hok
 | q::r,b,h,k+1,p,hk,hok=>Jc (phs:=r) (b:=b+1) h.2 k p (by simpa using hk) (by rw [show b+1+k=b+(k+1) by omega];exact hok)
theorem Y4 {all:Array Oper} {ok:Nat->Bool} (h:∀ N G,Uv P n N G all o ⟨Er,v⟩):∀ {phs:Phs} {b:Nat},QEs P n all o Er v ok b phs
 | [],_=>trivial
 | p::r,b=>⟨fun _ G _=>h p.1 G,Y4 h⟩
theorem Yf (hpos:V7 i ef 0=none) (hw:wants Er L.toArray o.guard=some true) (h:noD P Er bare o=some v):QE P l n D L ef phs i o Er v:=.inl ⟨hpos,Y4 fun _ _=>Yl hw h⟩
theorem Ph (hpos:V7 i ef 0=none) (h:QEs P n L.toArray o Er v (Nn L ef i o) 0 phs):QE P l n D L ef phs i o Er v:=.inl ⟨hpos,h⟩
theorem qe_ef {N':Nat} {H':Ch} (j:Nat) (hpos:V7 i ef 0=some j) (h1:phs[j]?=some (N,H)) (h2:phs[j+1]?=some (N',H')) (h:HE P l n L.toArray D o Er v N H N' H'):QE P l n D L ef phs i o Er v:=.inr ⟨j,N,H,N',H',hpos,h1,h2,h⟩
theorem Fp:∀ {R:List Oper} {vs:List SV} {b:Nat} {E:SE},QW P l n D L ef phs b R vs E->R.length=vs.length/\∀ (i:Nat) (o:Oper) (v:SV),R[i]?=some o->vs[i]?=some v->QE P l n D L ef phs (b+i) o (erOf L.toArray (Wb R vs E i) o) v
 | [],[],b,E,_=>⟨rfl,fun i o v h=>by simp at h⟩
 | [],_::_,b,E,h=>h.elim
 | _::_,[],b,E,h=>h.elim
 | o::r,v::vs,b,E,h=>by
  obtain ⟨h1,h2⟩:=Fp (b:=b+1) h.2;refine ⟨by simp [h1],fun i q u hi hu=>?_⟩;cases i with
  | zero =>
   have e1:o=q:=by simpa using hi
   have e2:v=u:=by simpa using hu
   subst e1;subst e2;exact h.1
  | succ i =>
   have:=h2 i q u (by simpa using hi) (by simpa using hu);rw [show b+1+i=b+(i+1) by omega] at this;exact this
theorem K8 {α:Type} {p:Nat->α->Bool}:∀ {l:List α} {i:Nat},(∀ j x,l[j]?=some x->p (i+j) x=true)->U6 p i l=true
 | [],i,_=>rfl
 | y::l,i,h=>by
  simp only [U6,Bool.and_eq_true];refine ⟨by simpa using h 0 y (by simp),K8 fun j x hx=>?_⟩;have:=h (j+1) x (by simpa using hx)
  rwa [show i+(j+1)=i+1+j by omega] at this
theorem Sm {Fn:Fence} {m:Nat} {K:Act->World->Prop} {Q':Exit->Act->World->Prop} (hQ:∀ e a w,Q' e a w->e=.normal) (h:o.wpIn Fn m P a w K Q'):o.wpIn Fn m P a w (fun a' w'=>K a' w'/\∃ x,a'.tmps=(a.put o.dst x).tmps) Q:=by
 unfold Oper.wpIn at *;refine ⟨h.1,?_⟩;have h:=h.2;have hlo:LetsOut Q'->LetsOut Q:=fun ⟨a,w,q⟩=>by cases hQ _ _ _ q
 generalize (o.semAt Fn.round a.eval).run P w=r at *;cases r with
 | ok x w' =>
  cases x<;>simp only [Oper.uponIn] at h ⊢
  ·exact ⟨h,_,J⟩
  ·exact ⟨h,undef,J⟩
  ·exact ⟨h.1,CallsIn.mono h.2 (fun e w'' he=>by cases e<;>first | exact ⟨he,_,J⟩ | exact hlo he | exact absurd (hQ _ _ _ he) (by intro e;cases e))⟩
  ·exact ⟨h.1,RoundIn.mono h.2 (fun e w'' he=>by cases e<;>first | exact ⟨he,_,J⟩ | exact hlo he | exact absurd (hQ _ _ _ he) (by intro e;cases e))⟩
  ·refine ⟨h,undef,?_⟩;cases o.dst<;>rfl
  ·exact ⟨h.1,RowsIn.mono h.2 (fun v _ he=>⟨he,v,J⟩)⟩
 | halt x w'=>cases x<;>simp only [Oper.uponIn] at h ⊢<;>first | exact absurd (hQ _ _ _ h) (by intro e;cases e) | exact h
structure InvE (L:List Oper) (vs:List SV) (ef:List Nat) (phs:Phs) (n:Nat) (E:SE) (D:List SD) (w0:World) (F:List Nat) (B0:Nm) (N0:Nat) (T:List Nat) (G0:Nat->Option SB) (ls:Array Bool) (a:Act) (w:World) (k:Nat) (B:Nm) (N:Nat) (H:Ch) (G:Nat->Option SB):Prop where
 sz:ls.size=L.length
 ph:phs[k]?=some (N,H)
 kb:k<=ef.length
 cnt:∀ (j e:Nat),ef[j]?=some e->(ls.getD e false=true↔j<k)
 cl:∀ (i:Nat) (o:Oper) (e:Edge),L[i]?=some o->ls.getD i false=true->e ∈ o.after->Region.binds .any e=true->ls.getD e.on false=true
 si:Since B0 N0 B N
 gx:Gx w0 F B N G w
 hx:Hx T N0 G0 H G
 tm:n<=a.tmps.size
 df:W8 B D=some a.defers
 done:∀ (i:Nat) (o:Oper) (d:Nat) (v:SV),L[i]?=some o->vs[i]?=some v->ls.getD i false=true->o.dst=some d->∃ x,den B v=some x/\a.tmps[d]?=some x
 old:∀ (t:Nat) (v:SV),slook E t=some v->(∀ (i:Nat) (o:Oper),L[i]?=some o->o.dst≠some t)->∃ x,den B v=some x/\a.tmps[t]?=some x
theorem Oy {ls:Array Bool} {i j:Nat}:(ls.setIfInBounds i true).getD j false=if i=j then (if i<ls.size then true else false) else ls.getD j false:=by
 rw [Array.getD_eq_getD_getElem?,Array.getElem?_setIfInBounds,Array.getD_eq_getD_getElem?];by_cases e:i=j
 ·rw [if_pos e,if_pos e];by_cases h:i<ls.size
  ·rw [if_pos h,if_pos h];rfl
  ·rw [if_neg h,if_neg h];rfl
 ·rw [if_neg e,if_neg e]
theorem V2 {x:Value} {d:Nat} (h:o.dst≠some d):(a.put o.dst x).tmps[d]?=a.tmps[d]?:=by
 cases hod:o.dst with
 | none=>rfl
 | some d' =>
  show (a.tmps.setIfInBounds d' x)[d]?=_;rw [Array.getElem?_setIfInBounds,if_neg (fun e=>h (by rw [hod,e]))]
theorem Hg {id:Nat} (vs:List SV) (ef:List Nat) (phs:Phs) (hm:P.follows .mixedOrders=true) (h1:Mx L=true) (h2:Q5 L=true) (h3:ckRd L.toArray L=true) (h4:ckN n L=true) (h5:ckEf L ef=true) (h0:phs[0]?=some (N,H)) (hq:QW P l n D L ef phs 0 L vs E)
  {N':Nat} {H':Ch} (hlast:phs[ef.length]?=some (N',H')) (k:HL P l n #[] w0 F B0 N0 T G0 Q [] (Wb L vs E L.length) D N' H'):HC P l n w0 F B0 N0 T G0 Q (.region id L.toArray true) E D N H:=by
 obtain ⟨hlen,hqs⟩:=Fp hq;intro G hG B w a hs hg ha;have hto:∀ (i:Nat) (o:Oper),L.toArray[i]?=some o->L[i]?=some o:=fun i o h=>by simpa using h
 have hedge:∀ (i:Nat) (o:Oper) (e:Edge),L[i]?=some o->e ∈ o.after->Region.binds .any e=true->e.on<i:=by
  intro i o e ho he hb;have c:=We h2 ho;have c2:=List.all_eq_true.1 c e (by simpa using he);rw [hb] at c2
  simpa using c2
 have hdst:∀ (i j:Nat) (o q:Oper) (d:Nat),L[i]?=some o->L[j]?=some q->i≠j->o.dst=some d->q.dst≠some d:=by
  intro i j o q d ho hqj hij hd hd';have c:=We h1 ho;rw [hd] at c;simp only at c;have c2:=We c hqj;rw [hd',W3 hij] at c2;simp at c2
 have hdn:∀ (i:Nat) (o:Oper) (d:Nat),L[i]?=some o->o.dst=some d->d<n:=by
  intro i o d ho hd;have c:=List.all_eq_true.1 h4 o (List.mem_of_getElem? ho);rw [hd] at c
  simpa using c
 have hefL:∀ (j e:Nat),ef[j]?=some e->∃ q,L[e]?=some q/\∀ j':Nat,j=j'+1->∃ e',ef[j']?=some e'/\Vn L 2 q e'=true:=by
  intro j e hj;have c:=We h5 hj;cases hL:L[e]? with
  | none=>simp only [hL] at c;cases c
  | some q =>
   simp only [hL] at c;refine ⟨q,J,fun j' hj'=>?_⟩;subst hj';simp only at c;cases he':ef[j']? with
   | none=>simp only [he'] at c;cases c
   | some e'=>simp only [he'] at c;exact ⟨e',J,c⟩
 have hmono:∀ (j j' e e':Nat),ef[j]?=some e->ef[j']?=some e'->j<j'->e<e':=by
  intro j j';induction j' with
  | zero=>intro e e' _ _ h;omega
  | succ j' ih =>
   intro e e' he he' hlt;obtain ⟨q,hq',hc⟩:=hefL (j'+1) e' he';obtain ⟨e2,he2,hb⟩:=hc j' rfl;have hlt2:=Oc hedge 2 e' q e2 hq' hb;rcases Nat.lt_or_ge j j' with h | h
   ·exact Nat.lt_trans (ih e e2 he he2 h) hlt2
   ·have:j=j':=by omega
    subst this;rw [he] at he2;cases he2;exact hlt2
 have hinj:∀ (j j' e:Nat),ef[j]?=some e->ef[j']?=some e->j=j':=by
  intro j j' e h h';rcases Nat.lt_trichotomy j j' with hl | hl | hl
  ·exact absurd (hmono j j' e e h h' hl) (Nat.lt_irrefl _)
  ·exact hl
  ·exact absurd (hmono j' j e e h' h hl) (Nat.lt_irrefl _)
 have hagsR:∀ {ls a w k B N H G},InvE L vs ef phs n E D w0 F B0 N0 T G0 ls a w k B N H G->∀ i o,L[i]?=some o->(∀ e ∈ o.after,Region.binds .any e=true->ls.getD e.on false=true)->Ags n a (erOf L.toArray (Wb L vs E i) o) D B:=by
  intro ls a w k B N H G hI i o ho hafter;refine ⟨⟨hI.tm,fun t v ht=>?_⟩,hI.df⟩
  have hread:∀ (j:Nat) (q:Oper),L[j]?=some q->q.dst=some t->∃ e,e ∈ o.after/\Region.binds .any e=true/\e.on=j:=by
   intro j q hj hd;have c:=List.all_eq_true.1 h3 o (List.mem_of_getElem? ho);have c2:=List.all_eq_true.1 c t (Ob (Ss ht));have c3:=We c2 hj;rw [hd] at c3;simp only [Nat.beq_refl,Bool.not_true,Bool.false_or,List.any_eq_true,Bool.and_eq_true] at c3;obtain ⟨e,he,hb,hon⟩:=c3;exact ⟨e,by simpa using he,hb,Nat.eq_of_beq_eq_true hon⟩
  have hi:i<L.length:=(List.getElem?_eq_some_iff.1 ho).1;rcases Vy L vs E i t v (by omega) hlen (Vw ht) with ⟨j,q,hji,hj,hvj,hd⟩ | ⟨h5,h6⟩
  ·obtain ⟨e,he,hb,rfl⟩:=hread j q hj hd;exact hI.done e.on q t v hj hvj (hafter e he hb) hd
  ·refine hI.old t v h5 (fun j q hj hd=>?_);obtain ⟨e,he,hb,rfl⟩:=hread j q hj hd;exact h6 e.on q (hedge i o e ho he hb) hj hd
 refine wpIn_region_any hm ?_;refine K7 (I:=fun ls a w=>∃ k B N H G,InvE L vs ef phs n E D w0 F B0 N0 T G0 ls a w k B N H G) (fun _ _ _ ⟨_,_,_,_,_,h⟩=>by rw [h.sz];simp) (fun i o e ho=>hedge i o e (hto i o ho)) ?_ ?_ _ _ _ _ ?_ ?_
 ·rintro ls a w i ⟨k,B,N,H,G,hI⟩ hi;obtain ⟨hil,o,ho',hafter⟩:=mem_ready.1 hi;have ho:=hto i o ho';have hiL:i<L.length:=(List.getElem?_eq_some_iff.1 ho).1;have hv:vs[i]?=some vs[i]:=List.getElem?_eq_getElem (by omega)
  have hil':ls.getD i false=false:=by
   have hlt:i<ls.size:=by rw [hI.sz];exact hiL
   simpa [Array.getD,hlt] using hil
  have hags:=hagsR hI i o ho hafter;have hQE:=hqs i o _ ho hv;rw [Nat.zero_add] at hQE;unfold wpOpIn;rw [ho'];simp only
  have hstep:∀ {a':Act} {w1:World} {x:Value} {k':Nat} {B':Nm} {N1:Nat} {H1:Ch} {G1:Nat->Option SB},a'.tmps=(a.put o.dst x).tmps->(∀ d,o.dst=some d->den B' vs[i]=some x)->Pre B B'->phs[k']?=some (N1,H1)->k'<=ef.length->(∀ (j e:Nat),ef[j]?=some e->((if i=e then True else ls.getD e false=true)↔j<k'))->Since B0 N0 B' N1->Gx w0 F B' N1 G1 w1->Hx T N0 G0 H1 G1->W8 B' D=some a'.defers ->
    InvE L vs ef phs n E D w0 F B0 N0 T G0 (ls.setIfInBounds i true) a' w1 k' B' N1 H1 G1:=by
   intro a' w1 x k' B' N1 H1 G1 hat hx hpre hph hkb hcnt hsi hgx hhx hdf
   have hset:∀ j,(ls.setIfInBounds i true).getD j false=true↔(if i=j then True else ls.getD j false=true):=by
    intro j;rw [Oy];by_cases e:i=j
    ·rw [if_pos e,if_pos e,if_pos (by rw [hI.sz];exact hiL)];simp
    ·rw [if_neg e,if_neg e]
   refine ⟨by rw [Array.size_setIfInBounds];exact hI.sz,hph,hkb,fun j e he=>(hset e).trans (hcnt j e he),fun i2 o2 e ho2 hl2 he hb=>?_,hsi,hgx,hhx,?_,hdf,fun j q d v hj hvj hl hd=>?_,fun t v ht hn=>?_⟩
   ·rw [hset] at hl2 ⊢;by_cases e2:i=i2
    ·subst e2;rw [ho] at ho2;cases ho2;by_cases e3:i=e.on
     ·rw [if_pos e3];trivial
     ·rw [if_neg e3];exact hafter e he hb
    ·rw [if_neg e2] at hl2;by_cases e3:i=e.on
     ·rw [if_pos e3];trivial
     ·rw [if_neg e3];exact hI.cl i2 o2 e ho2 hl2 he hb
   ·rw [hat];cases hod:o.dst with
    | none=>exact hI.tm
    | some d=>show n<=(a.tmps.setIfInBounds d x).size;rw [Array.size_setIfInBounds];exact hI.tm
   ·rw [hat];by_cases e2:i=j
    ·subst e2;rw [ho] at hj;cases hj;rw [hv] at hvj;cases hvj;refine ⟨x,hx d hd,?_⟩;rw [hd];show (a.tmps.setIfInBounds d x)[d]?=_;rw [Array.getElem?_setIfInBounds,if_pos rfl,if_pos (Nat.lt_of_lt_of_le (hdn i o d ho hd) hI.tm)]
    ·rw [hset,if_neg e2] at hl;obtain ⟨y,hy,hty⟩:=hI.done j q d v hj hvj hl hd;exact ⟨y,Xl hpre v y hy,by rw [V2 (fun e'=>hdst i j o q d ho hj e2 e' hd)];exact hty⟩
   ·rw [hat];obtain ⟨y,hy,hty⟩:=hI.old t v ht hn;exact ⟨y,Xl hpre v y hy,by rw [V2 (hn i o ho)];exact hty⟩
  have hcntQ:i ∉ ef->∀ (j e:Nat),ef[j]?=some e->((if i=e then True else ls.getD e false=true)↔j<k):=by
   intro hne j e he;rw [if_neg (fun e':i=e=>hne (e' ▸ List.mem_of_getElem? he))];exact hI.cnt j e he
  rcases hQE with ⟨hpos,hquiet⟩ | ⟨j,N1,H1,N2,H2,hpos,hp1,hp2,hHE⟩
  ·have hne:=Rr hpos
   have hok:Nn L ef i o k=true:=by
    unfold Nn;refine K8 fun j e he=>?_;rw [Nat.zero_add,Bool.and_eq_true];refine ⟨?_,?_⟩
    ·cases hb:Vn L 2 o e with
     | false=>rfl
     | true =>
      have:=Ww hI.cl 2 o e hafter hb
      simpa using (hI.cnt j e he).1 this
    ·obtain ⟨q,hqL,_⟩:=hefL j e he;rw [hqL];simp only;cases hb:Vn L 2 q i with
     | false=>rfl
     | true =>
      have:¬ j<k:=fun hlt=>by
       have h:=Ww hI.cl 2 q i (fun ed hed hbi=>hI.cl e q ed hqL ((hI.cnt j e he).2 hlt) hed hbi) hb;rw [hil'] at h;cases h
      simpa using this
   have hQ:=Jc hquiet k _ hI.ph (by rw [Nat.zero_add];exact hok) G hI.hx.hs;rcases hQ with ⟨hw,hv'⟩ | ⟨hw,hnd,hrun⟩
   ·rw [Y6 hags hw];simp only [Bool.false_eq_true,if_false];exact ⟨fun _ _=>trivial,k,B,N,H,G,hstep (x:=undef) J (fun _ _=>by rw [show vs[i]=.tup [] from hv'];rfl) (Pre.refl B) hI.ph hI.kb (hcntQ hne) hI.si hI.gx hI.hx (by rw [show (a.put o.dst undef).defers=a.defers by cases o.dst<;>rfl];exact hI.df)⟩
   ·rw [Y6 hags hw];simp only [if_true];obtain ⟨x,w1,hx,hd,hg1⟩:=hrun w0 F B D w a hI.gx hags;have hst:=hstep (a':=a.put o.dst x) (x:=x) rfl (fun _ _=>hd) (Pre.refl B) hI.ph hI.kb (hcntQ hne) hI.si hg1 hI.hx (by rw [show (a.put o.dst x).defers=a.defers by cases o.dst<;>rfl];exact hI.df);refine ⟨fun _ _=>trivial,?_⟩;rw [Oper.semAt_eq _ _ _ hnd];rcases hx with hx | ⟨rfl,hx⟩
    ·rw [hx];exact ⟨k,B,N,H,G,hst⟩
    ·rw [hx];exact ⟨k,B,N,H,G,hst⟩
  ·obtain ⟨j0,hj0,hej⟩:=Uo hpos
   have hjk:j=k:=by
    rw [Nat.zero_add] at hj0;subst hj0
    have hnlt:¬ j<k:=fun h=>by
     have:=(hI.cnt j i hej).2 h;rw [hil'] at this;cases this
    cases hjc:j with
    | zero=>omega
    | succ j' =>
     obtain ⟨q,hqL,hc⟩:=hefL j i hej;rw [ho] at hqL;cases hqL;obtain ⟨e',he',hb⟩:=hc j' hjc;have h:=Ww hI.cl 2 o e' hafter hb;have:=(hI.cnt j' e' he').1 h;omega
   rw [Nat.zero_add] at hj0;subst hj0;subst hjk;rw [hI.ph] at hp1;cases hp1;have hfr:∀ i,N<=i->G i=none:=fun i hi=>(hI.gx.new i hi).2
   have hgo:=hHE w0 F B N (H.map (·.1)) G (fun e a' w'=>e=.normal/\∃ B' G',Since B N B' N2/\Gx w0 F B' N2 G' w'/\Hx (H.map (·.1)) N G H2 G'/\Ags n a' (Ve o vs[i] (erOf L.toArray (Wb L vs E i) o)) D B')
    (fun G' hx'=>Ng fun B' w' a' hs' hg' ha'=>⟨rfl,B',G',hs',hg',hx',ha'⟩) G (Hx.start hI.hx.hs hfr) B w a (Since.refl B N) hI.gx hags
   have hfin:∀ a' w',(∃ x,a'.tmps=(a.put o.dst x).tmps)->(∃ B' G',Since B N B' N2/\Gx w0 F B' N2 G' w'/\Hx (H.map (·.1)) N G H2 G'/\Ags n a' (Ve o vs[i] (erOf L.toArray (Wb L vs E i) o)) D B')->∃ k B N H G,InvE L vs ef phs n E D w0 F B0 N0 T G0 (ls.setIfInBounds i true) a' w' k B N H G:=by
    rintro a' w' ⟨x,hat⟩ ⟨B',G',hs',hg',hx',ha'⟩
    have hcnt':∀ (j' e:Nat),ef[j']?=some e->((if i=e then True else ls.getD e false=true)↔j'<j+1):=by
     intro j' e he;by_cases e2:i=e
     ·subst e2;rw [if_pos rfl,hinj j' j i he hej];simp
     ·rw [if_neg e2,hI.cnt j' e he];constructor
      ·omega
      ·intro h;rcases Nat.lt_or_ge j' j with h' | h'
       ·exact h'
       ·have:j'=j:=by omega
        subst this;rw [hej] at he;cases he;exact absurd J e2
    have hxt:∃ y,(∀ d,o.dst=some d->den B' vs[i]=some y)/\a'.tmps=(a.put o.dst y).tmps:=by
     cases hod:o.dst with
     | none =>
      exact ⟨x,(fun d hd=>by cases hd),by rw [hat,hod]⟩
     | some d =>
      have hlk:slook (Ve o vs[i] (erOf L.toArray (Wb L vs E i) o)) d=some vs[i]:=by
       unfold Ve;rw [hod];simp only;rw [Z9,Nat.beq_refl];rfl
      obtain ⟨y,hy,hty⟩:=ha'.tm.2 d _ hlk;refine ⟨y,fun _ _=>hy,?_⟩;rw [hat,hod];have hd2:(a.tmps.setIfInBounds d x)[d]?=some y:=by rw [<- hty,hat,hod];rfl
      rw [Array.getElem?_setIfInBounds,if_pos rfl,if_pos (Nat.lt_of_lt_of_le (hdn i o d ho hod) hI.tm)] at hd2;cases hd2;rfl
    obtain ⟨y,hy,hat'⟩:=hxt;exact ⟨j+1,B',N2,H2,G',hstep hat' hy hs'.pre hp2 (List.getElem?_eq_some_iff.1 hej).1 hcnt' (hI.si.trans hs') hg' (hI.hx.trans hI.si.le hx') ha'.df⟩
   simp only [wpListIn] at hgo;cases hw:Region.wanted o (yielded L.toArray a.tmps) with
   | true =>
    rw [hw] at hgo;simp only [if_true] at hgo ⊢;refine Oper.wpIn_mono ?_ (Sm (fun e a w h=>h.1) hgo);rintro a' w' ⟨⟨_,h⟩,hx⟩;exact hfin a' w' hx h
   | false =>
    rw [hw] at hgo;simp only [Bool.false_eq_true,if_false] at hgo ⊢;exact ⟨hgo.1,hfin _ _ ⟨undef,J⟩ hgo.2.2⟩
 ·rintro ls a w ⟨k',B',N1,H1,G1,hI⟩ hall
  have hk':k'=ef.length:=by
   have hphl:phs[k']?=some (N1,H1):=hI.ph;rcases Nat.lt_trichotomy k' ef.length with h | h | h
   ·have he:=List.getElem?_eq_getElem h;obtain ⟨q,hqL,_⟩:=hefL k' _ he;have:=(hI.cnt k' _ he).1 (hall _ (by simpa using (List.getElem?_eq_some_iff.1 hqL).1));omega
   ·exact h
   ·exact absurd hI.kb (by omega)
  subst hk';rw [hI.ph] at hlast;cases hlast;refine k G1 hI.hx B' w a hI.si hI.gx ⟨⟨hI.tm,fun t v ht=>?_⟩,hI.df⟩;rcases Vy L vs E L.length t v (Nat.le_refl _) hlen ht with ⟨j,q,hji,hj,hvj,hd⟩ | ⟨h5,h6⟩
  ·exact hI.done j q t v hj hvj (hall j (by simpa using hji)) hd
  ·exact hI.old t v h5 (fun j q hj=>h6 j q (List.getElem?_eq_some_iff.1 hj).1 hj)
 ·refine ⟨0,B,N,H,G,by simp,h0,Nat.zero_le _,fun j e he=>?_,fun i o e _ hl=>?_,hs,⟨⟨hg.low.os,hg.low.tape,hg.low.output,hg.low.size,hg.low.block⟩,hg.new,hg.own,hg.apart⟩,hG,ha.tm.1,ha.df,fun i o d r _ _ hl _=>?_,fun t v ht _=>ha.tm.2 t v ht⟩
  ·rw [Array.getD_eq_getD_getElem?,Array.getElem?_replicate];split<;>simp
  ·rw [Array.getD_eq_getD_getElem?,Array.getElem?_replicate] at hl;split at hl<;>cases hl
  ·rw [Array.getD_eq_getD_getElem?,Array.getElem?_replicate] at hl;split at hl<;>cases hl
 ·simp
end
end S
namespace S
open Go Go.RowKit E
section
variable {P:Program} {l:Option Nat} {n:Nat} {all:Array Oper} {w0 w w':World} {F:List Nat} {B B0:Nm} {N N0:Nat} {T:List Nat} {G0 G:Nat->Option SB} {H:Ch} {E El E' Er:SE} {D:List SD} {a:Act} {o:Oper} {L:List Oper} {Q:Exit->Act->World->Prop}
theorem Gx.turn (h:Gx w0 F B N G w) {i:Nat} {old:SB} {p:Nat × Nat} (hi:G i=some old) (hp:B i=some p) (ho:w'.os=w.os/\w'.tape=w.tape/\w'.output=w.output) (hsz:w'.heap.size=w.heap.size) (hne:∀ k,k≠p.1->w'.heap[k]?=w.heap[k]?)
  (new:SB) (hb:Blk B p new w'.heap[p.1]?):Gx w0 F B N (Vb G i new) w':=by
 obtain ⟨q,hq,_,hF⟩:=h.own i old hi;rw [hp] at hq;cases hq;refine ⟨⟨ho.1.trans h.low.os,ho.2.1.trans h.low.tape,ho.2.2.trans h.low.output,by rw [hsz];exact h.low.size,fun k hk hn=>?_⟩,fun k hk=>?_,?_,?_⟩
 ·rw [hne k (fun e=>hF.elim (fun hf=>hn (by rw [e];exact hf)) (fun hf=>by omega))];exact h.low.block k hk hn
 ·exact ⟨(h.new k hk).1,by rw [Xm _ _ (by have:=h.lt hi;omega)];exact (h.new k hk).2⟩
 ·intro j x hj;by_cases e:j=i
  ·subst e;rw [Uf] at hj;cases hj;exact ⟨p,hp,hb,hF⟩
  ·rw [Xm _ _ e] at hj;obtain ⟨q,hq,hk,hF'⟩:=h.own j x hj;exact ⟨q,hq,by rw [hne q.1 (fun e'=>e (h.apart j i x old q p hj hi hq hp e'))];exact hk,hF'⟩
 ·intro j k x y r s hj hk hr hs e
  have key:∀ (k:Nat) (z:SB),Vb G i new k=some z->∃ z',G k=some z':=by
   intro k z hk;by_cases e:k=i
   ·subst e;exact ⟨old,hi⟩
   ·rw [Xm _ _ e] at hk;exact ⟨z,hk⟩
  obtain ⟨x',hx'⟩:=key j x hj;obtain ⟨y',hy'⟩:=key k y hk;exact h.apart j k x' y' r s hx' hy' hr hs e
noncomputable def putB (off:Nat) (c:List SV):SB->SB
 | .cells l=>.cells (sput l off c)
 | .row e sz k l=>.row e sz k (sput l off c)
 | b=>b
def Nu (m:Nat):SB->Prop
 | .cells l=>m<=l.length
 | .row _ _ _ l=>m<=l.length
 | _=>False
theorem GL_st {t b off m:Nat} {x y:Operand} {sb:SB} {c:List SV} {v:SV} (hw:wants E all o.guard=some true) (ho:o.op=.store t x y) (hd:o.dst=none) (hx:sev E x=some (.ptr b off)) (hy:sev E y=some v) (hG:G b=some sb) (ht:tSize P t=some m) (hv:svCells v=some c) (hc:c.length=m) (h1:c.all sOne=true) (hle:Nu (off+m) sb)
  (k:GL P l n all w0 F B0 N0 Q L E D N (Vb G b (putB off c sb))):GL P l n all w0 F B0 N0 Q (o::L) E D N G:=by
 intro B w a hs hg ha;simp only [wpListIn,Y6 ha hw];refine ⟨fun _ _=>trivial,?_⟩;rw [Oper.semAt_eq _ _ _ (fun c e=>by rw [ho] at e;cases e)];have he:=ha.eval hx;have hey:=ha.eval hy;obtain ⟨p,hp,e⟩:=Wr he;obtain ⟨vs,hvs,hcel⟩:=S8 hv hey;have hlv:vs.length=m:=by rw [Y7 hvs,hc]
 have hz':=Vc ht w;obtain ⟨q,hq,hblk,hF⟩:=hg.own b _ hG;rw [hp] at hq;cases hq
 have main:∀ (cur:Array Value) (ty:TypeId),w.heap[p.1]?=some (.cells cur ty (0,0))->off+m<=cur.size->Blk B p (putB off c sb) (some (.cells (cur.toList.take off++vs++cur.toList.drop (off+vs.length)).toArray ty (0,0))) ->
   Oper.uponIn (Wz l) 0 P o a (wpListIn (Wz l) 0 P all Q L) Q ((execOp a.eval o).run P w):=by
  intro cur ty hob hlen hblk';have hst:=run_storeCells_at P p.1 off ty vs 0 cur w hob (by omega) (Ra h1 hvs)
  have hrun:(execOp a.eval o).run P w=.ok .skip (w.setRow p.1 (cur.toList.take off++vs++cur.toList.drop (off+vs.length)).toArray):=by
   simp only [execOp,ho,e];simp only [Instr.storeAt,Instr.sureAddr,storeVar,hcel];simp [hz',hlv,hst]
  rw [hrun];have hput:a.put o.dst undef=a:=by rw [hd];rfl
  show wpListIn (Wz l) 0 P all Q L (a.put o.dst undef) _;rw [hput];refine k B _ a hs (hg.turn (w':=w.setRow p.1 (cur.toList.take off++vs++cur.toList.drop (off+vs.length)).toArray) hG hp ⟨J,J,J⟩ (by simp) (fun j hj=>setRow_other w p.1 j _ hj) _ ?_) ha;rw [setRow_heap w p.1 _ _ ty _ hob];exact hblk'
 cases sb with
 | cells cs =>
  obtain ⟨us,ty,hus,hob⟩:=hblk;have hlu:us.length=cs.length:=Y7 hus;have hle':off+m<=cs.length:=hle;refine main us.toArray ty hob (by simp;omega) ?_;exact ⟨_,ty,Sg hus hvs off,J⟩
 | row e2 sz k2 cs =>
  obtain ⟨us,cur,hus,hul,hob,hk1,hk2,hcs,htk⟩:=hblk;have hlu:us.length=cs.length:=Y7 hus;have hle':off+m<=cs.length:=hle;have hsz:k2*sz<=cur.size:=by rw [hcs];exact Nat.mul_le_mul_right _ hk1
  refine main cur e2 hob (by omega) ?_;have hcl:cur.toList.length=cur.size:=Array.length_toList;refine ⟨us.take off++vs++us.drop (off+vs.length),_,Sg hus hvs off,?_,J,hk1,hk2,?_,?_⟩
  ·rw [List.length_append,List.length_append,List.length_take,List.length_drop];omega
  ·simp only [List.size_toArray,List.length_append,List.length_take,List.length_drop,hcl];omega
  ·simp only;rw [<- htk];apply List.ext_getElem?;intro i;simp only [List.getElem?_take,List.getElem?_append,List.getElem?_drop,List.length_append,List.length_take,hcl];split<;>repeat' split<;>first | rfl | omega | (congr 1;omega) | skip
   all_goals (first | rfl | (exfalso;omega) | skip)
 | map es=>exact hle.elim
 | chan c k=>exact hle.elim
 | loop _ _ _ _ _ _ _=>exact hle.elim
 | defd=>exact hle.elim
 | iter m=>exact hle.elim
 | seen l _ _=>exact hle.elim
theorem HL_st {i t b off m:Nat} {x y:Operand} {sb:SB} {c:List SV} {v:SV} (hw:wants E all o.guard=some true) (ho:o.op=.store t x y) (hd:o.dst=none) (hx:sev E x=some (.ptr b off)) (hy:sev E y=some v) (hi:H[i]?=some (b,sb)) (ht:tSize P t=some m) (hv:svCells v=some c) (hc:c.length=m) (h1:c.all sOne=true) (hle:Nu (off+m) sb)
  (k:HL P l n all w0 F B0 N0 T G0 Q L E D N (H.set i (b,putB off c sb))):HL P l n all w0 F B0 N0 T G0 Q (o::L) E D N H:=fun G hG=>GL_st hw ho hd hx hy (hG.hs.get hi) ht hv hc h1 hle (k _ (hG.set hi _))
theorem X5 {t m off:Nat} {sb:SB} {c:List SV} (ht:tAgg P t=some true) (hz:tSize P t=some m) (hs:Wa sb=some c) (h:(cutAt c off m).length=m):ldAt P (one (shB sb)) t (some (.ptr 0 off))=some (sh (.agg (cutAt c off m))):=by
 have g:((one (shB sb)).get 0).bind Wa=some (shL c):=by
  rw [Xj];cases sb<;>cases hs<;>rfl
 have hl:(cutAt (shL c) off m).length=m:=by rw [Sh,Ls];exact h
 simp only [ldAt,g,ldCells,ht,hz,hl,Nat.beq_refl,cond_true];rw [Sh];rfl
end
end S
namespace S
open Go Go.RowKit E
section
variable {P:Program} {l:Option Nat} {n:Nat} {all:Array Oper} {w0 w w':World} {F:List Nat} {B B0:Nm} {N N0:Nat} {T:List Nat} {G0 G:Nat->Option SB} {H H2:Ch} {E El E' Er:SE} {D:List SD} {a:Act} {o:Oper} {L:List Oper} {Q:Exit->Act->World->Prop} {x y:Code} {e:Exit}
def HA (n:Nat) (w0:World) (F:List Nat) (B0:Nm) (N0:Nat) (T:List Nat) (G0:Nat->Option SB) (E:SE) (D:List SD) (N:Nat) (H:Ch) (a:Act) (w:World):Prop:=∃ G B,Hx T N0 G0 H G/\Since B0 N0 B N/\Gx w0 F B N G w/\Ags n a E D B
def HQ (n:Nat) (w0:World) (F:List Nat) (B0:Nm) (N0:Nat) (T:List Nat) (G0:Nat->Option SB) (Q:Exit->Act->World->Prop) (e:Exit) (E:SE) (D:List SD) (N:Nat) (H:Ch):Prop:=∀ a w,HA n w0 F B0 N0 T G0 E D N H a w->Q e a w
theorem Z7 (h:HQ n w0 F B0 N0 T G0 Q .normal E D N H):HL P l n all w0 F B0 N0 T G0 Q [] E D N H:=fun G hG=>Ng fun B w a hs hg ha=>h a w ⟨G,B,hG,hs,hg,ha⟩
theorem Yc (h:HQ n w0 F B0 N0 T G0 Q .ret E D N H):HC P l n w0 F B0 N0 T G0 Q .ret E D N H:=fun G hG B w a hs hg ha=>wpIn_ret (h a w ⟨G,B,hG,hs,hg,ha⟩)
theorem Yz {id:Nat} (h:HQ n w0 F B0 N0 T G0 Q (.exit id) E D N H):HC P l n w0 F B0 N0 T G0 Q (.exit id) E D N H:=fun G hG B w a hs hg ha=>wpIn_exit (h a w ⟨G,B,hG,hs,hg,ha⟩)
theorem Ya (h:HQ n w0 F B0 N0 T G0 Q .normal E D N H):HC P l n w0 F B0 N0 T G0 Q .skip E D N H:=fun G hG B w a hs hg ha=>wpIn_skip (h a w ⟨G,B,hG,hs,hg,ha⟩)
theorem Zr (h:HC P l n w0 F B0 N0 T G0 Q y E D N H):HQ n w0 F B0 N0 T G0 (Exit.then (y.wpIn (Wz l) 0 P Q) Q) .normal E D N H:=fun a w ⟨G,B,hG,hs,hg,ha⟩=>h G hG B w a hs hg ha
theorem Xg {K:Act->World->Prop} (h:HQ n w0 F B0 N0 T G0 Q .ret E D N H):HQ n w0 F B0 N0 T G0 (Exit.then K Q) .ret E D N H:=h
theorem Z8 {K:Act->World->Prop} {id:Nat} (h:HQ n w0 F B0 N0 T G0 Q (.exit id) E D N H):HQ n w0 F B0 N0 T G0 (Exit.then K Q) (.exit id) E D N H:=h
theorem Yb {id:Nat} (h:HQ n w0 F B0 N0 T G0 Q .normal E D N H):HQ n w0 F B0 N0 T G0 (Exit.inBlock id Q) .normal E D N H:=h
theorem Wu {id:Nat} (h:HQ n w0 F B0 N0 T G0 Q .ret E D N H):HQ n w0 F B0 N0 T G0 (Exit.inBlock id Q) .ret E D N H:=h
theorem Yi {id:Nat} (h:HQ n w0 F B0 N0 T G0 Q .normal E D N H):HQ n w0 F B0 N0 T G0 (Exit.inBlock id Q) (.exit id) E D N H:=fun a w hA=>by
 show (if id=id then _ else _);rw [if_pos rfl];exact h a w hA
theorem Z5 {fn:Func} {m:List SV} {R:SV->Nat->Ch->Prop} {T:List Nat} (is:List Nat) (he:e=.normal\/e=.ret) (hng:Vh P) (hr:resT E fn.results.toList=some m) (hn:is.Nodup) (hR:R (resV m) N (Yd H is)) :
  HQ n w0 F B0 N0 T G0 (bodyPostM (Wz none) 0 P fn (Fin B0 N0 w0 F fun v N' G'=>∃ H',R v N' H'/\Hx T N0 G0 H' G')) e E [] N H:=fun a w ⟨G,B,hG,hs,hg,ha⟩=>by
 obtain ⟨El,h1,h2⟩:=L3 (P:=P) N _ m hr;have:=Km (bs:=[]) (σ:=⟨0,.nil⟩) hng ⟨rfl,by simp,by simp,(fun i sb h=>by cases h),(fun i g h=>by cases h)⟩ h1 h2 (R:=fun v N' G'=>∃ H',R v N' H'/\Hx T N0 G0 H' G') (by rw [Sb (by simp)];exact ⟨_,hR,hG.pick hn⟩) hs hg ha;rcases he with rfl | rfl
 ·exact this
 ·exact this
def Lk (E:SE):SE->Prop
 | []=>True
 | p::r=>slook E p.1=some p.2/\Lk E r
theorem Lk.get:∀ {El:SE},Lk E El->∀ i v,slook El i=some v->slook E i=some v
 | [],_,i,v,h=>by cases h
 | (j,u)::r,ht,i,v,h=>by
  rw [Z9] at h;cases hb:Nat.beq i j with
  | true=>rw [hb] at h;cases h;have:=Nat.eq_of_beq_eq_true hb;subst this;exact ht.1
  | false=>rw [hb] at h;exact ht.2.get i v h
theorem HA.less {E2:SE} {is:List Nat} (ht:Lk E E2) (hn:is.Nodup) (h:HA n w0 F B0 N0 T G0 E D N H a w):HA n w0 F B0 N0 T G0 E2 D N (Yd H is) a w:=by
 obtain ⟨G,B,hG,hs,hg,ha⟩:=h;exact ⟨G,B,hG.pick hn,hs,hg,⟨⟨ha.tm.1,fun i v hv=>ha.tm.2 i v (ht.get i v hv)⟩,ha.df⟩⟩
theorem Zch {p:Nat->Prop} (h:∃ k,p k):∃ k,p k/\∀ j,p j->k<=j:=by
 obtain ⟨k,hk⟩:=h;induction k using Nat.strongRecOn with
 | _ k ih =>
  by_cases hx:∃ j,j<k/\p j
  ·obtain ⟨j,hj,hp⟩:=hx;exact ih j hj hp
  ·exact ⟨k,hk,fun j hj=>Nat.le_of_not_lt fun hlt=>hx ⟨j,hlt,hj⟩⟩
theorem T5 {α:Type} (μ:α->Nat) (st:α->SE) (nn:α->Nat) (hh:α->Ch) (s:α)
  (h:∀ s,HC P l n w0 F B0 N0 T G0 (Exit.then (fun a w=>∃ s',μ s'<μ s/\HA n w0 F B0 N0 T G0 (st s') D (nn s') (hh s') a w) Q) x (st s) D (nn s) (hh s)):HC P l n w0 F B0 N0 T G0 Q (.loop x) (st s) D (nn s) (hh s):=by
 intro G hG B w a hs hg ha
 classical
 let M:Act->World->Nat:=fun a w=>if hx:∃ k s,μ s=k/\HA n w0 F B0 N0 T G0 (st s) D (nn s) (hh s) a w then Classical.choose (Zch hx) else 0
 have hM:∀ a w s,HA n w0 F B0 N0 T G0 (st s) D (nn s) (hh s) a w->M a w<=μ s:=by
  intro a w s hA;have hx:∃ k s,μ s=k/\HA n w0 F B0 N0 T G0 (st s) D (nn s) (hh s) a w:=⟨_,s,rfl,hA⟩;show (if hx:_ then _ else _)<=_;rw [dif_pos hx];exact (Classical.choose_spec (Zch hx)).2 _ ⟨s,J,hA⟩
 refine wpIn_loop (fun a w=>∃ s,HA n w0 F B0 N0 T G0 (st s) D (nn s) (hh s) a w) M ⟨s,G,B,hG,hs,hg,ha⟩ ?_;rintro a w ⟨s0,hA0⟩;have hx:∃ k s,μ s=k/\HA n w0 F B0 N0 T G0 (st s) D (nn s) (hh s) a w:=⟨_,s0,rfl,hA0⟩;obtain ⟨s,hs1,hA⟩:=(Classical.choose_spec (Zch hx)).1
 have hMe:M a w=μ s:=by
  show (if hx:_ then _ else _)=_;rw [dif_pos hx];exact hs1.symm
 obtain ⟨G,B,hG,hs,hg,ha⟩:=hA;refine wpIn_mono (h s G hG B w a hs hg ha) ?_;intro e a' w' hq;cases e with
 | normal =>
  obtain ⟨s',hlt,hA'⟩:=hq;exact ⟨⟨s',hA'⟩,by rw [hMe];exact Nat.lt_of_le_of_lt (hM a' w' s' hA') hlt⟩
 | _=>exact hq
theorem Ti {α:Type} {μ:α->Nat} {st:α->SE} {nn:α->Nat} {hh:α->Ch} {s:α} (s':α) (is:List Nat) (hμ:μ s'<μ s) (hE:Lk E (st s')) (hN:nn s'=N) (hn:is.Nodup) (hH:hh s'=Yd H is) :
  HQ n w0 F B0 N0 T G0 (Exit.then (fun a w=>∃ s',μ s'<μ s/\HA n w0 F B0 N0 T G0 (st s') D (nn s') (hh s') a w) Q) .normal E D N H:=fun a w hA=>⟨s',hμ,by rw [hN,hH];exact hA.less hE hn⟩
theorem Gx.shrink (h:Gx w0 F B N G w) {b e sz k k':Nat} {c:List SV} (hb:G b=some (.row e sz k c)) (hk:k'<=k):Gx w0 F B N (Vb G b (.row e sz k' (c.take (k'*sz)))) w:=by
 obtain ⟨p,hp,⟨vs,cur,hvs,hl,ho,h1,h2,h3,h4⟩,_⟩:=h.own b _ hb;refine h.turn hb hp ⟨J,J,J⟩ J (fun _ _=>J) _ ?_;have hle:k'*sz<=k*sz:=Nat.mul_le_mul_right _ hk;refine ⟨vs.take (k'*sz),cur,Td _ hvs,by rw [List.length_take];omega,ho,by omega,h2,h3,?_⟩;rw [<- h4,List.take_take];congr 1;omega
theorem M9 {i b e2 sz k k':Nat} {c c2:List SV} (H2:Ch) (hi:H[i]?=some (b,.row e2 sz k c)) (hk:k'<=k) (hc:c.take (k'*sz)=c2) (hH:H.set i (b,.row e2 sz k' c2)=H2) (h:HQ n w0 F B0 N0 T G0 Q e E D N H2):HQ n w0 F B0 N0 T G0 Q e E D N H:=fun a w ⟨G,B,hG,hs,hg,ha⟩=>by
 subst hc;subst hH;exact h a w ⟨_,B,hG.set hi _,hs,hg.shrink (hG.hs.get hi) hk,ha⟩
theorem Wl {i t b off m:Nat} {x y:Operand} {sb:SB} {c:List SV} {v:SV} (H2:Ch) (hw:wants E all o.guard=some true) (ho:o.op=.store t x y) (hd:o.dst=none) (hx:sev E x=some (.ptr b off)) (hy:sev E y=some v) (hi:H[i]?=some (b,sb)) (ht:tSize P t=some m) (hv:svCells v=some c) (hc:c.length=m) (h1:c.all sOne=true) (hle:Nu (off+m) sb)
  (hH:H.set i (b,putB off c sb)=H2) (k:HL P l n all w0 F B0 N0 T G0 Q L E D N H2):HL P l n all w0 F B0 N0 T G0 Q (o::L) E D N H:=by subst hH;exact HL_st hw ho hd hx hy hi ht hv hc h1 hle k
theorem Zez {f:FuncId} {xx:Operand} {xs:Array Operand} {ts:Array TypeId} {u c m:List SV} {R:SV->Nat->Ch->Prop} (is js:List Nat) (hng:Vh P) (hw:wants E all o.guard=some true) (ho:o.op=.call ⟨.value xx,xs,ts⟩) (hx:sev E xx=some (.fn f u c)) (hxs:sargs E xs.toList=some m) (hn:(is++js).Nodup)
  (hF:HF P f (u++m++c) N (Yd H is) R) (k:∀ v N' H',R v N' H'->∃ E' H2,putD n E o.dst v=some E'/\H'++Yd H js=H2/\HL P l n all w0 F B0 N0 T G0 Q L E' D N' H2):HL P l n all w0 F B0 N0 T G0 Q (o::L) E D N H :=
 HL_call is js hng hw ho hx hxs hn hF fun v N' H' hR=>by
  obtain ⟨E',H2,h1,h2,h3⟩:=k v N' H' hR;subst h2;exact ⟨E',h1,h3⟩
theorem Uw {i i' t e sz by_ x y b b' ln k k' o' m j:Nat} {js:List Nat} {c c' cc:List SV} (H2:Ch) (hq:apInfo P e=some (sz,by_)) (ht:slOf P t=some e) (hw:wants E all o.guard=some true) (ho:o.op=.call ⟨.builtin .append,#[.tmp x,.tmp y],#[t,t]⟩)
  (hx:slook E x=some (.sl b 0 ln 0)) (hy:slook E y=some (.sl b' o' m j)) (hxy:Nat.beq x y=false) (hi:H[i]?=some (b,.row e sz k c)) (hi':H[i']?=some (b',.row e sz k' c')) (hn:(i::js).Nodup) (hii:Nat.beq i i'=false) (hl:ln<=k) (hlen:(cutAt c' o' (m*sz)).length=m*sz) (hone:(cutAt c' o' (m*sz)).all sOne=true)
  (hbd:(ln+m)*(by_+1)<=1000000) (hm:0<m) (hp:putD n E o.dst (.sl N 0 (ln+m) 0)=some E') (hcc:c.take (ln*sz)++cutAt c' o' (m*sz)=cc) (hH:(N,.row e sz (ln+m) cc)::Yd H js=H2) (kk:HL P l n all w0 F B0 N0 T G0 Q L E' D (N+1) H2):HL P l n all w0 F B0 N0 T G0 Q (o::L) E D N H:=by
 subst hcc;subst hH;exact Zfa hq ht hw ho hx hy hxy hi hi' hn hii hl hlen hone hbd hm hp kk
theorem Ux {i' t e sz by_ x y b' k' o' m j:Nat} {c' cc:List SV} (js:List Nat) (H2:Ch) (hq:apInfo P e=some (sz,by_)) (ht:slOf P t=some e) (hw:wants E all o.guard=some true) (ho:o.op=.call ⟨.builtin .append,#[.tmp x,.tmp y],#[t,t]⟩)
  (hx:slook E x=some (Zz)) (hy:slook E y=some (.sl b' o' m j)) (hxy:Nat.beq y x=false) (hi':H[i']?=some (b',.row e sz k' c')) (hlen:(cutAt c' o' (m*sz)).length=m*sz) (hone:(cutAt c' o' (m*sz)).all sOne=true)
  (hbd:m*(by_+1)<=1000000) (hm:0<m) (hp:putD n E o.dst (.sl N 0 m 0)=some E') (hcc:cutAt c' o' (m*sz)=cc) (hjs:(0::js).Nodup) (hH:Yd ((N,.row e sz m cc)::H) (0::js)=H2) (kk:HL P l n all w0 F B0 N0 T G0 Q L E' D (N+1) H2):HL P l n all w0 F B0 N0 T G0 Q (o::L) E D N H:=by
 subst hcc;subst hH;exact Zfb hq ht hw ho hx hy hxy hi' hlen hone hbd hm hp (Dw hjs kk)
theorem Q9 {i t e x y z b:Nat} {s:ByteArray} {v:SV} {es:List (ByteArray × SV)} (H2:Ch) (hw:wants E all o.guard=some true) (ho:o.op=.mapUpdate t (.tmp x) (.tmp y) (.tmp z)) (hd:o.dst=none) (ht:strMap P t=some e) (hx:slook E x=some (.mp b)) (hy:slook E y=some (Zs s)) (hz:slook E z=some v)
  (h1:Nat.beq y x=false) (h2:Nat.beq z x=false) (h3:Nat.beq z y=false) (hi:H[i]?=some (b,.map es)) (hH:H.set i (b,.map (putM s v es))=H2) (kk:HL P l n all w0 F B0 N0 T G0 Q L E D N H2):HL P l n all w0 F B0 N0 T G0 Q (o::L) E D N H:=by
 subst hH;exact Ah hw ho hd ht hx hy hz h1 h2 h3 hi kk
theorem ap_one {c:List SV} {ln:Nat} (hc:c.length=ln) (v:SV):c.take (ln*1)++cutAt [v] 0 (1*1)=c++[v]:=by
 rw [Nat.mul_one,List.take_of_length_le (by omega)];rfl
theorem Zes {c c':List SV} {ln m sz:Nat} (hc:c.length=ln*sz) (hc':c'.length=m*sz):c.take (ln*sz)++cutAt c' 0 (m*sz)=c++c':=by
 rw [List.take_of_length_le (by omega)];unfold cutAt;rw [List.drop_zero,List.take_of_length_le (by omega)]
theorem Xf {i j:Int}:ilt i j=true↔i<j:=by
 cases i<;>cases j<;>simp only [ilt]<;>first | (simp only [decide_eq_true_eq]) | skip
 rename_i a b
 constructor
 ·intro h;have:=Nat.le_of_ble_eq_true h;show (a:Int)<b;omega
 ·intro h;have h':(a:Int)<b:=h;exact Nat.ble_eq_true_of_le (by omega)
theorem S5 {i j:Int}:ieq i j=true↔i=j:=by
 cases i<;>cases j<;>simp only [ieq]<;>first | (simp only [decide_eq_true_eq]) | skip
 rename_i a b
 constructor
 ·intro h;rw [Nat.eq_of_beq_eq_true h]
 ·intro h;cases h;exact Nat.beq_refl _
end
end S
namespace S
open Go Go.RowKit E
section
variable {P:Program} {l:Option Nat} {n:Nat} {all:Array Oper} {w0 w w':World} {F:List Nat} {B B0:Nm} {N N0:Nat} {T:List Nat} {G0 G:Nat->Option SB} {H H2:Ch} {E El E' Er:SE} {D:List SD} {a:Act} {o:Oper} {L:List Oper} {Q:Exit->Act->World->Prop} {x y:Code} {e:Exit} {v:SV} {ok:Nat->Bool} {k:Nat} {p:Nat × Ch} {r:Phs}
theorem Xn (h:ok k=false) (t:QEs P n all o Er v ok (k+1) r):QEs P n all o Er v ok k (p::r):=⟨(fun e=>by rw [h] at e;cases e),t⟩
theorem Ys (h:∀ G,Hs p.2 G->Uv P n p.1 G all o ⟨Er,v⟩) (t:QEs P n all o Er v ok (k+1) r):QEs P n all o Er v ok k (p::r):=⟨fun _=>h,t⟩
theorem HC_to {α:Type} {st:α->SE} {nn:α->Nat} {hh:α->Ch} (s:α) (is:List Nat) (hE:Lk E (st s)) (hN:nn s=N) (hn:is.Nodup) (hH:hh s=Yd H is) (h:HC P l n w0 F B0 N0 T G0 Q x (st s) D (nn s) (hh s)):HC P l n w0 F B0 N0 T G0 Q x E D N H:=fun G hG B w a hs hg ha=>by
 rw [hN,hH] at h;exact h G (hG.pick hn) B w a hs hg ⟨⟨ha.tm.1,fun i v hv=>ha.tm.2 i v (hE.get i v hv)⟩,ha.df⟩
theorem Jf {c:Operand} {b:Bool} (hc:sev E c=some (Zb b)) (hb:b=true) (h:HC P l n w0 F B0 N0 T G0 Q x E D N H):HC P l n w0 F B0 N0 T G0 Q (.cond c x y) E D N H:=V9 hc (fun _=>h) (fun e=>by rw [hb] at e;cases e)
theorem Py {c:Operand} {b:Bool} (hc:sev E c=some (Zb b)) (hb:b=false) (h:HC P l n w0 F B0 N0 T G0 Q y E D N H):HC P l n w0 F B0 N0 T G0 Q (.cond c x y) E D N H:=V9 hc (fun e=>by rw [hb] at e;cases e) (fun _=>h)
theorem Nd {i t e x b:Nat} {y:Operand} {ok:Bool} {s:ByteArray} {z:Value} {es:List (ByteArray × SV)} {v:SV} (hw:wants E all o.guard=some true) (ho:o.op=.lookup t (.tmp x) y ok) (ht:strMap P t=some e) (hz:tZero P e=some z) (hzs:sh (ofV z)=ofV z) (hx:slook E x=some (.mp b)) (hy:sev E y=some (Zs s)) (hyx:∀ t',y=.tmp t'->Nat.beq t' x=false)
  (hi:H[i]?=some (b,.map es)) (hv:lookV ok (ofV z) (findS s es)=v) (hp:putD n E o.dst v=some E') (kk:HL P l n all w0 F B0 N0 T G0 Q L E' D N H):HL P l n all w0 F B0 N0 T G0 Q (o::L) E D N H:=by
 subst hv;exact HL_look hw ho ht hz hzs hx hy hyx hi hp kk
theorem Cp {all:Array Oper} {Er El:SE} {b:Nat} {sb:SB} {f:Nat->SV} (hw:wants Er all o.guard=some true) (hd:∀ c,o.op≠.defer c) (hG:G b=some sb) (hE:∀ N,V8 (rho [b] N) Er El) (hact:act P El (one (shB sb)) o=some (.val (one (shB sb),none,f))) (hv:∀ N,ren (rho [b] N) (f 0)=v):Uv P n N G all o ⟨Er,v⟩:=by
 refine .inr ⟨hw,hd,fun w0 F B D w a hg ha=>?_⟩;obtain ⟨x,w1,B',hr,hsi,hd,hg1⟩:=hg.op (G2 hG) ha (hE N) hact (v:=f 0) (σ':=one (shB sb)) rfl;have hN:N+((one (shB sb)).n - [b].length)=N:=rfl;rw [hN,Fk hg (hg.lt hG) rfl (sb:=sb) (by rw [Xj];rfl),Su hG] at hg1
 have hB:B'=B:=by
  funext i
  rcases Nat.lt_or_ge i N with hi | hi
  ·exact hsi.old i hi
  ·rw [(hg1.new i hi).1,(hg.new i hi).1]
 subst hB;rw [hv] at hd;exact ⟨x,w1,hr,hd,hg1⟩
theorem Od {all:Array Oper} {Er:SE} {t e sz x tl b o' ln j k m:Nat} {kd:IntKind} {c:List SV} (hw:wants Er all o.guard=some true) (ho:o.op=.slice t (.tmp x) none (some (.tmp tl)) none) (ht:slOf P t=some e) (hs:szIs P e sz=true) (hx:slook Er x=some (.sl b o' ln j)) (hl:slook Er tl=some (.v (.int kd (.ofNat m)))) (hxl:Nat.beq tl x=false)
  (hb:G b=some (.row e sz k c)) (h2:j+m<=k):Uv P n N G all o ⟨Er,.sl b o' m j⟩:=by
 refine Cp (El:=[(x,.sl 0 o' ln j),(tl,.v (.int kd (.ofNat m)))]) (f:=fun _=>.sl 0 (o'+0*sz) (m - 0) (j+0)) hw (fun c e=>by rw [ho] at e;cases e) hb (fun N=>⟨by rw [hx];rfl,by rw [hl];rfl,trivial⟩) ?_ (fun N=>by simp [ren,rho]);unfold act;rw [ho];have s1:sev [(x,Zk 0 o' ln j),(tl,SV.v (.int kd (.ofNat m)))] (.tmp x)=some (.sl 0 o' ln j):=by simp only [sev];rw [Z9,Nat.beq_refl];rfl
 have s2:sev [(x,Zk 0 o' ln j),(tl,SV.v (.int kd (.ofNat m)))] (.tmp tl)=some (.v (.int kd (.ofNat m))):=by simp only [sev];rw [Z9,hxl];simp only [cond_false];rw [Z9,Nat.beq_refl];rfl
 have g0:rowOf (one (shB (.row e sz k c))) 0=some (e,sz,k,shL c):=by unfold rowOf;rw [Xj];rfl
 have q1:Nat.ble 0 m=true:=Nat.ble_eq_true_of_le (Nat.zero_le _);have q2:Nat.ble (j+m) k=true:=Nat.ble_eq_true_of_le h2;have q3:(Nat.beq 0 0 || Nat.blt (j+0) k)=true:=rfl;unfold slOf at ht;split at ht
 ·rename_i e' hu
  cases ht;simp only [s1,s2,exSlice,bnd,natOf,exSliceL,hu,g0,Nat.beq_refl,hs,q1,q2,q3,Bool.and_self,cond_true,same,Ar.of];rfl
 ·cases ht
end
end S
end Go.Proofs.YtpofmnfkdkmieaaGreat
