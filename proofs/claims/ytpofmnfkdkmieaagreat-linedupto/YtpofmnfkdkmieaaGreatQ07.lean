/- What is proved here: of a region that draws its order, what m -/
import Derived.Test.YtpofmnfkdkmieaaGreatQ03
import Derived.Test.YtpofmnfkdkmieaaGreatQ06
set_option linter.unusedVariables false
set_option linter.unusedSimpArgs false
namespace Go.Proofs.YtpofmnfkdkmieaaGreat
namespace S
open Go Go.RowKit E
structure Rg (kd:Nat->Kr) (bt:Nat->Nat->Bool) (base:St) (N0:Nat):Prop where
 tr:∀ i k l,bt i k=true->bt k l=true->bt i l=true
 lt:∀ i k,bt i k=true->k<i
 ch:∀ i j p q p' q',kd i=.ef p q->kd j=.ef p' q'->j<i->bt i j=true
 sl:∀ i p q k r sb,kd i=.ef p q->kd k=.al r sb->bt i k=false->q.get r=none
 rd1:∀ i b sb e p q,kd i=.rd b sb->kd e=.ef p q->bt i e=false->bt e i=false->p.get b=q.get b
 rd2:∀ i b sb k sb',kd i=.rd b sb->kd k=.al b sb'->bt i k=true
 al:∀ k r sb,kd k=.al r sb->r=N0+k
 bs:∀ k,base.get (N0+k)=none
def Mg (kd:Nat->Kr) (bt:Nat->Nat->Bool) (s:Nat->Bool) (k:Nat):Prop:=∃ u p q,kd u=.ef p q/\s u=true/\bt u k=true
def Last (kd:Nat->Kr) (base:St) (s:Nat->Bool) (C:St):Prop:=(∃ e p,kd e=.ef p C/\s e=true/\∀ u p' q',kd u=.ef p' q'->s u=true->u<=e)\/((∀ u p q,kd u=.ef p q->s u=false)/\C=base)
def Fs (kd:Nat->Kr) (bt:Nat->Nat->Bool) (s:Nat->Bool) (C:St) (b:Nat) (x:SB):Prop:=(∃ k,kd k=.al b x/\s k=true/\¬ Mg kd bt s k)\/((∀ k sb,kd k=.al b sb->s k=true->Mg kd bt s k)/\C.get b=some x)
def IsH (kd:Nat->Kr) (bt:Nat->Nat->Bool) (base:St) (s:Nat->Bool) (τ:St):Prop:=∃ C,Last kd base s C/\τ.n=C.n/\∀ b x,τ.get b=some x↔Fs kd bt s C b x
section
variable {kd:Nat->Kr} {bt:Nat->Nat->Bool} {base:St} {N0:Nat} {s s':Nat->Bool}
theorem Uj (h:∀ u p q,kd u=.ef p q->s u=s' u) {C C':St} (h1:Last kd base s C) (h2:Last kd base s' C'):C=C':=by
 rcases h1 with ⟨e,p,he,hs,hm⟩ | ⟨hn,rfl⟩<;>rcases h2 with ⟨e',p',he',hs',hm'⟩ | ⟨hn',rfl⟩
 ·have l1:=hm e' _ _ he' (by rw [h _ _ _ he'];exact hs');have l2:=hm' e _ _ he (by rw [<- h _ _ _ he];exact hs);have:e=e':=Nat.le_antisymm l2 l1;subst this;rw [he] at he';cases he';rfl
 ·have:=hn' e _ _ he;rw [<- h _ _ _ he,hs] at this;cases this
 ·have:=hn e' _ _ he';rw [h _ _ _ he',hs'] at this;cases this
 ·rfl
theorem W6 (h:∀ u p q,kd u=.ef p q->s u=s' u) {k:Nat} (hm:Mg kd bt s k):Mg kd bt s' k:=by
 obtain ⟨u,p,q,hu,hs,hb⟩:=hm;exact ⟨u,p,q,hu,by rw [<- h _ _ _ hu];exact hs,hb⟩
/-- What was done ahead of it is closed. -/
def Cl (bt:Nat->Nat->Bool) (s:Nat->Bool):Prop:=∀ u k,s u=true->bt u k=true->s k=true
theorem Fi (R:Rg kd bt base N0) {k k' b:Nat} {x y:SB} (h:kd k=.al b x) (h':kd k'=.al b y):k=k'/\x=y:=by
 have e1:=R.al _ _ _ h;have e2:=R.al _ _ _ h';have:k=k':=by omega
 subst this;rw [h] at h';cases h';exact ⟨J,J⟩
/-- A slot that is not C9 in holds nothing below. -/
theorem Mj (R:Rg kd bt base N0) {C:St} {k r:Nat} {sb:SB} (hl:Last kd base s C) (hk:kd k=.al r sb) (hm:¬ Mg kd bt s k):C.get r=none:=by
 rcases hl with ⟨e,p,he,hs,_⟩ | ⟨_,rfl⟩
 ·cases hb:bt e k with
  | true=>exact absurd ⟨e,p,C,he,hs,hb⟩ hm
  | false=>exact R.sl _ _ _ _ _ _ he hk hb
 ·rw [R.al _ _ _ hk];exact R.bs k
/-- Effects, and what must be ahead of one of them. -/
theorem Dc (R:Rg kd bt base N0) {e:Nat} {p q:St} (he:kd e=.ef p q) (hc:Cl bt s) (hn:s e=false) (hA:∀ k,bt e k=true->s k=true):∀ u p' q',kd u=.ef p' q'->bt e u=s u:=by
 intro u p' q' hu;cases hb:bt e u with
 | true=>exact (hA u hb).symm
 | false =>
  cases hs:s u with
  | false=>rfl
  | true =>
   rcases Nat.lt_trichotomy u e with h | h | h
   ·rw [R.ch _ _ _ _ _ _ he hu h] at hb;cases hb
   ·rw [h,hn] at hs;cases hs
   ·have:=hc u e hs (R.ch _ _ _ _ _ _ hu he h);rw [hn] at this;cases this
theorem ef_pre (R:Rg kd bt base N0) {e:Nat} {p q τ:St} (he:kd e=.ef p q) (hp:IsH kd bt base (bt e) p) (hτ:IsH kd bt base s τ) (hc:Cl bt s) (hn:s e=false) (hA:∀ k,bt e k=true->s k=true) :
  (∀ b x,p.get b=some x->τ.get b=some x)/\p.n=τ.n:=by
 obtain ⟨C,hl,hnn,hg⟩:=hp;obtain ⟨C',hl',hnn',hg'⟩:=hτ;have hsame:=Dc R he hc hn hA;have hC:=Uj hsame hl hl';subst hC;refine ⟨fun b x hx=>(hg' b x).2 ?_,by rw [hnn,hnn']⟩;rcases (hg b x).1 hx with ⟨k,hk,hs,hm⟩ | ⟨ha,hx⟩
 ·exact .inl ⟨k,hk,hA k hs,fun h=>hm (W6 (fun u p q hu=>(hsame u p q hu).symm) h)⟩
 ·refine .inr ⟨fun k sb hk hs=>?_,hx⟩;by_cases hm:Mg kd bt s k
  ·exact hm
  ·have:=Mj R hl' hk hm;rw [this] at hx;cases hx
def V5 (s:Nat->Bool) (i:Nat):Nat->Bool:=fun k=>s k || Nat.beq k i
theorem Eh {i k:Nat} (h:V5 s i k=true):s k=true\/k=i:=by
 unfold V5 at h;rw [Bool.or_eq_true] at h;exact h.imp id (fun h=>Nat.eq_of_beq_eq_true h)
theorem Oe {i k:Nat} (h:s k=true):V5 s i k=true:=by unfold V5;rw [h];rfl
theorem Vr (s:Nat->Bool) (i:Nat):V5 s i i=true:=by unfold V5;rw [Nat.beq_refl];simp
theorem Ua {i k:Nat} (h:k≠i):V5 s i k=s k:=by unfold V5;rw [W3 h];simp
theorem plus_cl (hc:Cl bt s) {i:Nat} (hA:∀ k,bt i k=true->s k=true):Cl bt (V5 s i):=by
 intro u k hu hb;rcases Eh hu with h | rfl
 ·exact Oe (hc u k h hb)
 ·exact Oe (hA k hb)
theorem ef_post (R:Rg kd bt base N0) {e:Nat} {p q τ τ':St} (he:kd e=.ef p q) (hp:IsH kd bt base (bt e) p) (hτ:IsH kd bt base s τ) (hτ':IsH kd bt base (V5 s e) τ') (hc:Cl bt s) (hn:s e=false) (hA:∀ k,bt e k=true->s k=true) :
  τ'.n=q.n/\∀ b x,τ'.get b=some x->q.get b=some x\/(p.get b=none/\τ.get b=some x):=by
 obtain ⟨C,hl,hnn,hg⟩:=hp;obtain ⟨C1,hl1,hn1,hg1⟩:=hτ;obtain ⟨C2,hl2,hn2,hg2⟩:=hτ';have hsame:=Dc R he hc hn hA
 have hC2:C2=q:=by
  rcases hl2 with ⟨e',p',he',hs',hm'⟩ | ⟨hn',_⟩
  ·have l1:=hm' e _ _ he (Vr s e);rcases Eh hs' with h | rfl
   ·have h2:=hsame _ _ _ he';rw [h] at h2;have:=R.lt _ _ h2;omega
   ·rw [he] at he';cases he';rfl
  ·have:=hn' e _ _ he;rw [Vr] at this;cases this
 subst hC2;refine ⟨hn2,fun b x hx=>?_⟩;rcases (hg2 b x).1 hx with ⟨k,hk,hs,hm⟩ | ⟨_,hx⟩
 ·right
  have hbe:bt e k=false:=by
   cases hb:bt e k with
   | false=>rfl
   | true=>exact absurd ⟨e,p,C2,he,Vr s e,hb⟩ hm
  have hke:k≠e:=fun h=>by rw [h,he] at hk;cases hk
  have hsk:s k=true:=by rw [Ua hke] at hs;exact hs
  have hm1:¬ Mg kd bt s k:=fun ⟨u,p',q',hu,hsu,hb⟩=>hm ⟨u,p',q',hu,Oe hsu,hb⟩;refine ⟨?_,(hg1 b x).2 (.inl ⟨k,hk,hsk,hm1⟩)⟩;cases hpb:p.get b with
  | none=>rfl
  | some y =>
   rcases (hg b y).1 hpb with ⟨k',hk',hs',_⟩ | ⟨_,hy⟩
   ·rw [(Fi R hk hk').1,hs'] at hbe;cases hbe
   ·have hCC:=Uj hsame hl hl1;subst hCC;rw [Mj R hl1 hk hm1] at hy;cases hy
 ·exact .inl hx
theorem Zcp {i:Nat} {τ:St} (hi:∀ p q,kd i≠.ef p q) (ha:∀ r sb,kd i≠.al r sb) (h:IsH kd bt base s τ):IsH kd bt base (V5 s i) τ:=by
 obtain ⟨C,hl,hn,hg⟩:=h;have hef:∀ u p q,kd u=.ef p q->V5 s i u=s u:=fun u p q hu=>Ua (fun e=>hi p q (by rw [<- e];exact hu));have hal:∀ k r sb,kd k=.al r sb->V5 s i k=s k:=fun k r sb hk=>Ua (fun e=>ha r sb (by rw [<- e];exact hk));have hmg:∀ k,Mg kd bt (V5 s i) k↔Mg kd bt s k:=fun k=>⟨W6 hef,W6 (fun u p q hu=>(hef u p q hu).symm)⟩;refine ⟨C,?_,hn,fun b x=>?_⟩
 ·rcases hl with ⟨e,p,he,hs,hm⟩ | ⟨hno,rfl⟩
  ·exact .inl ⟨e,p,he,by rw [hef _ _ _ he];exact hs,fun u p' q' hu hs=>hm u p' q' hu (by rw [<- hef _ _ _ hu];exact hs)⟩
  ·exact .inr ⟨fun u p q hu=>by rw [hef _ _ _ hu];exact hno u p q hu,J⟩
 ·rw [hg b x];unfold Fs;constructor
  ·rintro (⟨k,hk,hs,hm⟩ | ⟨hall,hx⟩)
   ·exact .inl ⟨k,hk,by rw [hal _ _ _ hk];exact hs,fun h=>hm ((hmg k).1 h)⟩
   ·exact .inr ⟨fun k sb hk hs=>(hmg k).2 (hall k sb hk (by rw [<- hal _ _ _ hk];exact hs)),hx⟩
  ·rintro (⟨k,hk,hs,hm⟩ | ⟨hall,hx⟩)
   ·exact .inl ⟨k,hk,by rw [<- hal _ _ _ hk];exact hs,fun h=>hm ((hmg k).2 h)⟩
   ·exact .inr ⟨fun k sb hk hs=>(hmg k).1 (hall k sb hk (by rw [hal _ _ _ hk];exact hs)),hx⟩
theorem h_alloc (R:Rg kd bt base N0) {i r:Nat} {sb:SB} {τ:St} (hi:kd i=.al r sb) (hc:Cl bt s) (hn:s i=false) (hr:r<lim) (h:IsH kd bt base s τ):IsH kd bt base (V5 s i) (τ.set r (some sb)):=by
 obtain ⟨C,hl,hnn,hg⟩:=h;have hef:∀ u p q,kd u=.ef p q->V5 s i u=s u:=fun u p q hu=>Ua (fun e=>by rw [e,hi] at hu;cases hu);have hmg:∀ k,Mg kd bt (V5 s i) k↔Mg kd bt s k:=fun k=>⟨W6 hef,W6 (fun u p q hu=>(hef u p q hu).symm)⟩
 have hmi:¬ Mg kd bt s i:=fun ⟨u,p,q,hu,hsu,hb⟩=>by
  have:=hc u i hsu hb;rw [hn] at this;cases this
 refine ⟨C,?_,hnn,fun b x=>?_⟩
 ·rcases hl with ⟨e,p,he,hs,hm⟩ | ⟨hno,rfl⟩
  ·exact .inl ⟨e,p,he,by rw [hef _ _ _ he];exact hs,fun u p' q' hu hs=>hm u p' q' hu (by rw [<- hef _ _ _ hu];exact hs)⟩
  ·exact .inr ⟨fun u p q hu=>by rw [hef _ _ _ hu];exact hno u p q hu,J⟩
 ·rw [τ.get_set hr];by_cases hb:b=r
  ·subst hb;rw [if_pos rfl];unfold Fs;constructor
   ·intro e;cases e;exact .inl ⟨i,hi,Vr s i,fun h=>hmi ((hmg i).1 h)⟩
   ·rintro (⟨k,hk,_,_⟩ | ⟨hall,_⟩)
    ·rw [(Fi R hi hk).2]
    ·exact absurd ((hmg i).1 (hall i sb hi (Vr s i))) hmi
  ·rw [if_neg hb,hg b x];have hal:∀ k sb',kd k=.al b sb'->V5 s i k=s k:=fun k sb' hk=>Ua (fun e=>by rw [e,hi] at hk;cases hk;exact hb J);unfold Fs;constructor
   ·rintro (⟨k,hk,hs,hm⟩ | ⟨hall,hx⟩)
    ·exact .inl ⟨k,hk,by rw [hal _ _ hk];exact hs,fun h=>hm ((hmg k).1 h)⟩
    ·exact .inr ⟨fun k sb hk hs=>(hmg k).2 (hall k sb hk (by rw [<- hal _ _ hk];exact hs)),hx⟩
   ·rintro (⟨k,hk,hs,hm⟩ | ⟨hall,hx⟩)
    ·exact .inl ⟨k,hk,by rw [<- hal _ _ hk];exact hs,fun h=>hm ((hmg k).2 h)⟩
    ·exact .inr ⟨fun k sb hk hs=>(hmg k).1 (hall k sb hk (by rw [hal _ _ hk];exact hs)),hx⟩
/-- What is read is the same whenever it is read. -/
theorem rd_same (R:Rg kd bt base N0) (hex:∀ s,∃ τ,IsH kd bt base s τ) (hpre:∀ e p q,kd e=.ef p q->IsH kd bt base (bt e) p) {i b:Nat} {sb:SB} {α:St} (hi:kd i=.rd b sb) (hα:IsH kd bt base (bt i) α) (hb:α.get b=some sb) :
  ∀ (N:Nat) (s:Nat->Bool) (τ:St),(∀ u p q,kd u=.ef p q->s u=true->u<N)->(∀ k,bt i k=true->s k=true)->(∀ u v p q p' q',kd u=.ef p q->kd v=.ef p' q'->u<v->s v=true->s u=true) ->
  (∀ e p q,kd e=.ef p q->s e=true->bt i e=false->p.get b=q.get b)->IsH kd bt base s τ->τ.get b=some sb:=by
 intro N;induction N with
 | zero =>
  intro s τ hN hA hd hq hτ;obtain ⟨C,hl,_,hg⟩:=hα;obtain ⟨C',hl',_,hg'⟩:=hτ
  have hsame:∀ u p q,kd u=.ef p q->bt i u=s u:=fun u p q hu=>by
   cases hs:s u with
   | true=>have:=hN u p q hu hs;omega
   | false =>
    cases hbu:bt i u with
    | false=>rfl
    | true=>rw [hA u hbu] at hs;cases hs
  have hC:=Uj hsame hl hl';subst hC;refine (hg' b sb).2 ?_;rcases (hg b sb).1 hb with ⟨k,hk,hs,hm⟩ | ⟨ha,hx⟩
  ·exact .inl ⟨k,hk,hA k hs,fun h=>hm (W6 (fun u p q hu=>(hsame u p q hu).symm) h)⟩
  ·exact .inr ⟨fun k sb' hk _=>W6 hsame (ha k sb' hk (R.rd2 _ _ _ _ _ hi hk)),hx⟩
 | succ N ih =>
  intro s τ hN hA hd hq hτ;by_cases hlast:∃ p q,kd N=.ef p q/\s N=true/\bt i N=false
  ·obtain ⟨p,q,hk,hs,hbi⟩:=hlast;have hpq:=hq N p q hk hs hbi;obtain ⟨C1,hl1,_,hg1⟩:=hpre N p q hk;let s1:Nat->Bool:=fun k=>s k && !(Nat.beq k N);have s1ne:∀ k,k≠N->s1 k=s k:=fun k hk=>by show (s k && !(Nat.beq k N))=s k;rw [W3 hk];simp
   have s1N:s1 N=false:=by show (s N && !(Nat.beq N N))=false;rw [Nat.beq_refl];simp
   obtain ⟨τ1,hτ1⟩:=hex s1
   have h1:=ih s1 τ1 (fun u p' q' hu hs'=>by
     have hne:u≠N:=fun e=>by rw [e,s1N] at hs';cases hs'
     have:=hN u p' q' hu (by rw [<- s1ne u hne];exact hs');omega) (fun k hk'=>by
     have hne:k≠N:=fun e=>by rw [e,hbi] at hk';cases hk'
     rw [s1ne k hne];exact hA k hk') (fun u v p1 q1 p2 q2 hu hv huv hs'=>by
     have hne:v≠N:=fun e=>by rw [e,s1N] at hs';cases hs'
     have hsv:s v=true:=by rw [<- s1ne v hne];exact hs'
     have:=hN v p2 q2 hv hsv;rw [s1ne u (by omega)];exact hd u v p1 q1 p2 q2 hu hv huv hsv) (fun e p' q' he hs' hbe=>by
     have hne:e≠N:=fun e'=>by rw [e',s1N] at hs';cases hs'
     exact hq e p' q' he (by rw [<- s1ne e hne];exact hs') hbe) hτ1
   obtain ⟨C2,hl2,_,hg2⟩:=hτ1;obtain ⟨C',hl',_,hg'⟩:=hτ
   have hsame:∀ u p' q',kd u=.ef p' q'->bt N u=s1 u:=fun u p' q' hu=>by
    by_cases hne:u=N
    ·subst hne;rw [s1N];cases hbu:bt u u with
     | false=>rfl
     | true=>have:=R.lt _ _ hbu;omega
    ·rw [s1ne u hne];cases hsu:s u with
     | true=>exact R.ch _ _ _ _ _ _ hk hu (by have:=hN u p' q' hu hsu;omega)
     | false =>
      cases hbu:bt N u with
      | false=>rfl
      | true=>rw [hd u N _ _ _ _ hu hk (R.lt _ _ hbu) hs] at hsu;cases hsu
   have hCq:C'=q:=by
    rcases hl' with ⟨e',p',he',hs',hm'⟩ | ⟨hn',_⟩
    ·have l1:=hm' N _ _ hk hs;have l2:=hN e' _ _ he' hs';have:e'=N:=by omega
     subst this;rw [hk] at he';cases he';rfl
    ·have:=hn' N _ _ hk;rw [hs] at this;cases this
   subst hCq;have hC12:=Uj hsame hl1 hl2;subst hC12
   have hal:∀ k sb',kd k=.al b sb'->bt i k=true/\s k=true/\s1 k=true:=fun k sb' hk'=>by
    have e1:=R.rd2 _ _ _ _ _ hi hk';have e2:=hA k e1;exact ⟨e1,e2,by rw [s1ne k (fun e=>by rw [e,hk] at hk';cases hk')];exact e2⟩
   refine (hg' b sb).2 ?_;rcases (hg2 b sb).1 h1 with ⟨k,hk',hs',hm'⟩ | ⟨ha,hx⟩
   ·cases hbk:bt N k with
    | true =>
     have hpb:p.get b=some sb:=(hg1 b sb).2 (.inl ⟨k,hk',hbk,fun h=>hm' (W6 hsame h)⟩);refine .inr ⟨fun k2 sb2 hk2 _=>?_,by rw [<- hpq];exact hpb⟩;rw [(Fi R hk2 hk').1];exact ⟨N,p,C',hk,hs,hbk⟩
    | false =>
     refine .inl ⟨k,hk',(hal k sb hk').2.1,fun ⟨u,p',q',hu,hsu,hbu⟩=>?_⟩;by_cases hne:u=N
     ·rw [hne,hbk] at hbu;cases hbu
     ·exact hm' ⟨u,p',q',hu,by rw [s1ne u hne];exact hsu,hbu⟩
   ·have hmg:∀ k sb',kd k=.al b sb'->Mg kd bt s1 k:=fun k sb' hk'=>ha k sb' hk' (hal k sb' hk').2.2;have hpb:p.get b=some sb:=(hg1 b sb).2 (.inr ⟨fun k sb' hk' _=>W6 (fun u p q hu=>(hsame u p q hu).symm) (hmg k sb' hk'),hx⟩);refine .inr ⟨fun k sb' hk' _=>?_,by rw [<- hpq];exact hpb⟩;obtain ⟨u,p',q',hu,hsu,hbu⟩:=hmg k sb' hk';have hne:u≠N:=fun e=>by rw [e,s1N] at hsu;cases hsu
    exact ⟨u,p',q',hu,by rw [<- s1ne u hne];exact hsu,hbu⟩
  ·by_cases hN':∃ p q,kd N=.ef p q/\s N=true
   ·-- the last one is ahead of i: all are
    obtain ⟨p,q,hk,hs⟩:=hN'
    have hbi:bt i N=true:=by
     cases h:bt i N with
     | true=>rfl
     | false=>exact absurd ⟨p,q,hk,hs,h⟩ hlast
    obtain ⟨C,hl,_,hg⟩:=hα;obtain ⟨C',hl',_,hg'⟩:=hτ
    have hsame:∀ u p q,kd u=.ef p q->bt i u=s u:=fun u p' q' hu=>by
     cases hsu:s u with
     | true =>
      have:=hN u p' q' hu hsu;by_cases hne:u=N
      ·rw [hne];exact hbi
      ·exact R.tr _ _ _ hbi (R.ch _ _ _ _ _ _ hk hu (by omega))
     | false =>
      cases hbu:bt i u with
      | false=>rfl
      | true=>rw [hA u hbu] at hsu;cases hsu
    have hC:=Uj hsame hl hl';subst hC;refine (hg' b sb).2 ?_;rcases (hg b sb).1 hb with ⟨k,hk',hs',hm⟩ | ⟨ha,hx⟩
    ·exact .inl ⟨k,hk',hA k hs',fun h=>hm (W6 (fun u p q hu=>(hsame u p q hu).symm) h)⟩
    ·exact .inr ⟨fun k sb' hk' _=>W6 hsame (ha k sb' hk' (R.rd2 _ _ _ _ _ hi hk')),hx⟩
   ·exact ih s τ (fun u p q hu hs=>by
     have:=hN u p q hu hs;have:u≠N:=fun e=>hN' ⟨p,q,by rw [<- e];exact hu,by rw [<- e];exact hs⟩;omega) hA hd hq hτ
theorem rd_any (R:Rg kd bt base N0) (hex:∀ s,∃ τ,IsH kd bt base s τ) (hpre:∀ e p q,kd e=.ef p q->IsH kd bt base (bt e) p) {i b m:Nat} {sb:SB} {α τ:St} (hi:kd i=.rd b sb) (hα:IsH kd bt base (bt i) α) (hb:α.get b=some sb)
  (hfin:∀ u p q,kd u=.ef p q->u<m) (hτ:IsH kd bt base s τ) (hc:Cl bt s) (hn:s i=false) (hA:∀ k,bt i k=true->s k=true):τ.get b=some sb :=
 rd_same R hex hpre hi hα hb m s τ (fun u p q hu _=>hfin u p q hu) hA (fun u v p q p' q' hu hv huv hs=>hc v u hs (R.ch _ _ _ _ _ _ hv hu huv)) (fun e p q he hs hbe=>R.rd1 _ _ _ _ _ _ hi he hbe (by
  cases h:bt e i with
  | false=>rfl
  | true=>have:=hc e i hs h;rw [hn] at this;cases this)) hτ
end
end S
namespace S
open Go Go.RowKit E
noncomputable def kdOf (rs:List Rc) (i:Nat):Kr:=match rs[i]? with
 | some rc=>rc.k
 | none=>.no
noncomputable def btOf (ms:List Nat) (i k:Nat):Bool:=Nat.testBit (msk ms i) k
theorem Vi (r:Rc) (rs:List Rc):kdOf (r::rs) 0=r.k:=rfl
theorem kd_succ (r:Rc) (rs:List Rc) (j:Nat):kdOf (r::rs) (j+1)=kdOf rs j:=rfl
theorem Kk (j:Nat):kdOf [] j=.no:=by simp [kdOf]
section
variable {s:Nat->Bool} {ms:List Nat}
noncomputable def nextC (s:Nat->Bool) (i:Nat) (C:St):Kr->St
 | .ef _ post=>bif s i then post else C
 | _=>C
theorem Gm (r:Rc) (rs:List Rc) (i:Nat) (C:St):lastC s (r::rs) i C=lastC s rs (i+1) (nextC s i C r.k):=by
 obtain ⟨sk,Er,v,k⟩:=r;cases k<;>rfl
theorem Ou:∀ (rs:List Rc) (i:Nat) (C:St),(∃ j p,kdOf rs j=.ef p (lastC s rs i C)/\s (i+j)=true/\∀ j' p' q',kdOf rs j'=.ef p' q'->s (i+j')=true->j'<=j)\/((∀ j p q,kdOf rs j=.ef p q->s (i+j)=false)/\lastC s rs i C=C)
 | [],i,C=>.inr ⟨(fun j p q h=>by rw [Kk] at h;cases h),rfl⟩
 | r::rs,i,C=>by
  rw [Gm];rcases Ou rs (i+1) (nextC s i C r.k) with ⟨j,p,hj,hs,hm⟩ | ⟨hn,hC⟩
  ·refine .inl ⟨j+1,p,hj,by rw [<- hs];congr 1;omega,fun j' p' q' hj' hs'=>?_⟩;cases j' with
   | zero=>omega
   | succ j' =>
    have:=hm j' p' q' hj' (by rw [<- hs'];congr 1;omega);omega
  ·rw [hC];have hn':∀ j p q,kdOf rs j=.ef p q->s (i+(j+1))=false:=fun j p q h=>by rw [<- hn j p q h];congr 1;omega
   cases hk:r.k with
   | ef pre post =>
    cases hs:s i with
    | true =>
     refine .inl ⟨0,pre,by rw [Vi,hk];simp [nextC,hs],by simpa using hs,fun j' p' q' hj' hs'=>?_⟩;cases j' with
     | zero=>omega
     | succ j'=>rw [hn' j' p' q' hj'] at hs';cases hs'
    | false =>
     refine .inr ⟨fun j p q hj=>?_,by simp [nextC,hs]⟩;cases j with
     | zero=>simpa using hs
     | succ j=>exact hn' j p q hj
   | _ =>
    refine .inr ⟨fun j p q hj=>?_,J⟩;cases j with
    | zero=>rw [Vi,hk] at hj;cases hj
    | succ j=>exact hn' j p q hj
theorem Cz (k:Nat) (r:Rc) (rs:List Rc) (i:Nat):mrgd s ms k (r::rs) i=(match r.k with
  | .ef _ _=>(s i&&Nat.testBit (msk ms i) k) || mrgd s ms k rs (i+1)
  | _=>mrgd s ms k rs (i+1)):=by
 obtain ⟨sk,Er,v,kk⟩:=r;cases kk with
 | ef p q =>
  show cond (s i&&Nat.testBit (msk ms i) k) true (mrgd s ms k rs (i+1))=_;cases (s i&&Nat.testBit (msk ms i) k)<;>rfl
 | _=>rfl
theorem Md (k:Nat):∀ (rs:List Rc) (i:Nat),mrgd s ms k rs i=true↔∃ j p q,kdOf rs j=.ef p q/\s (i+j)=true/\btOf ms (i+j) k=true
 | [],i=>by
  constructor
  ·intro h;cases h
  ·rintro ⟨j,p,q,h,_⟩;rw [Kk] at h;cases h
 | r::rs,i=>by
  rw [Cz];have ih:=Md k rs (i+1)
  have hshift:(∃ j p q,kdOf rs j=.ef p q/\s (i+1+j)=true/\btOf ms (i+1+j) k=true)->∃ j p q,kdOf (r::rs) j=.ef p q/\s (i+j)=true/\btOf ms (i+j) k=true:=by
   rintro ⟨j,p,q,hj,h1,h2⟩;have e:i+1+j=i+(j+1):=by omega
   rw [e] at h1 h2;exact ⟨j+1,p,q,hj,h1,h2⟩
  cases hk:r.k with
  | ef pre post =>
   simp only [Bool.or_eq_true,Bool.and_eq_true];constructor
   ·rintro (⟨h1,h2⟩ | h)
    ·exact ⟨0,pre,post,by rw [Vi];exact hk,h1,h2⟩
    ·exact hshift (ih.1 h)
   ·rintro ⟨j,p,q,hj,h1,h2⟩;cases j with
    | zero=>exact .inl ⟨h1,h2⟩
    | succ j =>
     have e:i+(j+1)=i+1+j:=by omega
     rw [e] at h1 h2;exact .inr (ih.2 ⟨j,p,q,hj,h1,h2⟩)
  | _ =>
   simp only;constructor
   ·exact fun h=>hshift (ih.1 h)
   ·rintro ⟨j,p,q,hj,h1,h2⟩;cases j with
    | zero=>rw [Vi,hk] at hj;cases hj
    | succ j =>
     have e:i+(j+1)=i+1+j:=by omega
     rw [e] at h1 h2;exact ih.2 ⟨j,p,q,hj,h1,h2⟩
theorem Il (full:List Rc) (r:Rc) (rs:List Rc) (i:Nat) (C:St):hov s ms full (r::rs) i C=(match r.k with
  | .al q sb=>bif s i && !(mrgd s ms i full 0) then (hov s ms full rs (i+1) C).set q (some sb) else hov s ms full rs (i+1) C
  | _=>hov s ms full rs (i+1) C):=by
 obtain ⟨sk,Er,v,kk⟩:=r;cases kk<;>rfl
theorem hov_n (full:List Rc):∀ (rs:List Rc) (i:Nat) (C:St),(hov s ms full rs i C).n=C.n
 | [],i,C=>rfl
 | r::rs,i,C=>by
  rw [Il];have ih:=hov_n full rs (i+1) C;cases hk:r.k with
  | al q sb =>
   simp only;cases (s i && !(mrgd s ms i full 0)) with
   | true=>exact ih
   | false=>exact ih
  | _=>exact ih
theorem E7 (full:List Rc) (N:Nat):∀ (rs:List Rc) (i:Nat) (C:St),(∀ j q sb,kdOf rs j=.al q sb->q=N+(i+j)/\q<lim)->∀ b x,(hov s ms full rs i C).get b=some x ↔
  ((∃ j,kdOf rs j=.al b x/\s (i+j)=true/\mrgd s ms (i+j) full 0=false)\/((∀ j sb,kdOf rs j=.al b sb->s (i+j)=true->mrgd s ms (i+j) full 0=true)/\C.get b=some x))
 | [],i,C,_,b,x=>by
  constructor
  ·exact fun h=>.inr ⟨(fun j sb hj=>by rw [Kk] at hj;cases hj),h⟩
  ·rintro (⟨j,hj,_⟩ | ⟨_,h⟩)
   ·rw [Kk] at hj;cases hj
   ·exact h
 | r::rs,i,C,hal,b,x=>by
  have hal':∀ j q sb,kdOf rs j=.al q sb->q=N+(i+1+j)/\q<lim:=fun j q sb hj=>by
   have:=hal (j+1) q sb hj;exact ⟨by rw [this.1];omega,this.2⟩
  have ih:=E7 full N rs (i+1) C hal' b x;rw [Il];have e:∀ j,i+1+j=i+(j+1):=fun j=>by omega
  have rest:((∃ j,kdOf rs j=.al b x/\s (i+1+j)=true/\mrgd s ms (i+1+j) full 0=false)↔∃ j,kdOf (r::rs) (j+1)=.al b x/\s (i+(j+1))=true/\mrgd s ms (i+(j+1)) full 0=false):=by
   constructor
   ·rintro ⟨j,h1,h2,h3⟩;exact ⟨j,h1,by rw [<- e];exact h2,by rw [<- e];exact h3⟩
   ·rintro ⟨j,h1,h2,h3⟩;exact ⟨j,h1,by rw [e];exact h2,by rw [e];exact h3⟩
  have rest2:((∀ j sb,kdOf rs j=.al b sb->s (i+1+j)=true->mrgd s ms (i+1+j) full 0=true)↔∀ j sb,kdOf (r::rs) (j+1)=.al b sb->s (i+(j+1))=true->mrgd s ms (i+(j+1)) full 0=true):=by
   constructor
   ·intro h j sb h1 h2;rw [<- e];exact h j sb h1 (by rw [e];exact h2)
   ·intro h j sb h1 h2;rw [e];exact h j sb h1 (by rw [<- e];exact h2)
  have idle:(∀ sb,kdOf (r::rs) 0=.al b sb->s i=true->mrgd s ms i full 0=true)->(((∃ j,kdOf rs j=.al b x/\s (i+1+j)=true/\mrgd s ms (i+1+j) full 0=false)\/((∀ j sb,kdOf rs j=.al b sb->s (i+1+j)=true->mrgd s ms (i+1+j) full 0=true)/\C.get b=some x)) ↔
    ((∃ j,kdOf (r::rs) j=.al b x/\s (i+j)=true/\mrgd s ms (i+j) full 0=false)\/((∀ j sb,kdOf (r::rs) j=.al b sb->s (i+j)=true->mrgd s ms (i+j) full 0=true)/\C.get b=some x))):=by
   intro h0;constructor
   ·rintro (h | ⟨h,hx⟩)
    ·obtain ⟨j,h1,h2,h3⟩:=rest.1 h;exact .inl ⟨j+1,h1,h2,h3⟩
    ·refine .inr ⟨fun j sb hj hs=>?_,hx⟩;cases j with
     | zero=>exact h0 sb hj hs
     | succ j=>exact rest2.1 h j sb hj hs
   ·rintro (⟨j,h1,h2,h3⟩ | ⟨h,hx⟩)
    ·cases j with
     | zero =>
      have:=h0 x h1 h2;rw [show mrgd s ms i full 0=false from h3] at this;cases this
     | succ j=>exact .inl (rest.2 ⟨j,h1,h2,h3⟩)
    ·exact .inr ⟨rest2.2 fun j sb hj hs=>h (j+1) sb hj hs,hx⟩
  cases hk:r.k with
  | al q sb =>
   simp only;have hq:=hal 0 q sb (by rw [Vi];exact hk);cases hlv:(s i && !(mrgd s ms i full 0)) with
   | false =>
    simp only [cond_false];rw [ih];refine idle fun sb' h1 h2=>?_;rw [h2] at hlv
    simpa using hlv
   | true =>
    simp only [cond_true];rw [Bool.and_eq_true] at hlv;have hm0:mrgd s ms i full 0=false:=by simpa using hlv.2
    rw [St.get_set _ hq.2];by_cases hb:b=q
    ·subst hb;rw [if_pos rfl];constructor
     ·intro h;cases h;exact .inl ⟨0,by rw [Vi];exact hk,hlv.1,hm0⟩
     ·rintro (⟨j,h1,_,_⟩ | ⟨h,_⟩)
      ·have:=(hal j b x h1).1;have hj0:j=0:=by omega
       subst hj0;rw [Vi,hk] at h1;cases h1;rfl
      ·have:=h 0 sb (by rw [Vi];exact hk) hlv.1;rw [show mrgd s ms (i+0) full 0=false from hm0] at this;cases this
    ·rw [if_neg hb,ih];exact idle fun sb' h1 h2=>by rw [Vi,hk] at h1;cases h1;exact absurd J hb
  | no=>simp only;rw [ih];exact idle fun sb' h1 h2=>by rw [Vi,hk] at h1;cases h1
  | rd b' sb=>simp only;rw [ih];exact idle fun sb' h1 h2=>by rw [Vi,hk] at h1;cases h1
  | ef p q=>simp only;rw [ih];exact idle fun sb' h1 h2=>by rw [Vi,hk] at h1;cases h1
theorem Ox {rs:List Rc} {C0:St} {N:Nat} (hal:∀ j q sb,kdOf rs j=.al q sb->q=N+j/\q<lim):IsH (kdOf rs) (btOf ms) C0 s (heapOf s ms rs C0):=by
 have hmg:∀ k,mrgd s ms k rs 0=true↔Mg (kdOf rs) (btOf ms) s k:=fun k=>by
  rw [Md];constructor
  ·rintro ⟨j,p,q,h1,h2,h3⟩;rw [Nat.zero_add] at h2 h3;exact ⟨j,p,q,h1,h2,h3⟩
  ·rintro ⟨j,p,q,h1,h2,h3⟩;exact ⟨j,p,q,h1,by rw [Nat.zero_add];exact h2,by rw [Nat.zero_add];exact h3⟩
 have hmf:∀ k,mrgd s ms k rs 0=false↔¬ Mg (kdOf rs) (btOf ms) s k:=fun k=>by rw [<- hmg k];simp
 refine ⟨lastC s rs 0 C0,?_,hov_n rs rs 0 _,fun b x=>?_⟩
 ·rcases Ou (s:=s) rs 0 C0 with ⟨j,p,h1,h2,h3⟩ | ⟨h1,h2⟩
  ·exact .inl ⟨j,p,h1,by rw [Nat.zero_add] at h2;exact h2,fun u p' q' hu hs=>h3 u p' q' hu (by rw [Nat.zero_add];exact hs)⟩
  ·exact .inr ⟨fun u p q hu=>by have:=h1 u p q hu;rw [Nat.zero_add] at this;exact this,h2⟩
 ·unfold heapOf;rw [E7 rs N rs 0 _ (fun j q sb hj=>by rw [Nat.zero_add];exact hal j q sb hj) b x];unfold Fs;simp only [Nat.zero_add,hmf,hmg]
theorem Bb {kd kd':Nat->Kr} {bt:Nat->Nat->Bool} {base:St} {τ:St} (h:∀ k,s k=true->kd k=kd' k) (hτ:IsH kd bt base s τ):IsH kd' bt base s τ:=by
 obtain ⟨C,hl,hn,hg⟩:=hτ
 have hmg:∀ k,Mg kd bt s k↔Mg kd' bt s k:=fun k=>by
  constructor
  ·rintro ⟨u,p,q,hu,hs,hb⟩;exact ⟨u,p,q,by rw [<- h u hs];exact hu,hs,hb⟩
  ·rintro ⟨u,p,q,hu,hs,hb⟩;exact ⟨u,p,q,by rw [h u hs];exact hu,hs,hb⟩
 refine ⟨C,?_,hn,fun b x=>?_⟩
 ·rcases hl with ⟨e,p,he,hs,hm⟩ | ⟨hno,rfl⟩
  ·exact .inl ⟨e,p,by rw [<- h e hs];exact he,hs,fun u p' q' hu hsu=>hm u p' q' (by rw [h u hsu];exact hu) hsu⟩
  ·refine .inr ⟨fun u p q hu=>?_,J⟩;cases hs:s u with
   | false=>rfl
   | true=>rw [<- hs];exact hno u p q (by rw [h u hs];exact hu)
 ·rw [hg b x];unfold Fs;constructor
  ·rintro (⟨k,hk,hs,hm⟩ | ⟨hall,hx⟩)
   ·exact .inl ⟨k,by rw [<- h k hs];exact hk,hs,fun hh=>hm ((hmg k).2 hh)⟩
   ·exact .inr ⟨fun k sb hk hs=>(hmg k).1 (hall k sb (by rw [h k hs];exact hk) hs),hx⟩
  ·rintro (⟨k,hk,hs,hm⟩ | ⟨hall,hx⟩)
   ·exact .inl ⟨k,by rw [h k hs];exact hk,hs,fun hh=>hm ((hmg k).1 hh)⟩
   ·exact .inr ⟨fun k sb hk hs=>(hmg k).2 (hall k sb (by rw [<- h k hs];exact hk) hs),hx⟩
end
/-! ### Which must be ahead -/
theorem Pb (x y k:Nat):Nat.testBit (Nat.lor x y) k=(Nat.testBit x k || Nat.testBit y k):=Nat.testBit_or x y k
theorem O9 (ms:List Nat) (k:Nat):∀ l:List Edge,Nat.testBit (ancOf ms l) k=true↔∃ e ∈ l,Region.binds .any e=true/\(k=e.on\/Nat.testBit ((nth ms e.on).getD 0) k=true)
 | []=>by simp [ancOf]
 | e::l=>by
  have ih:=O9 ms k l;have hc:ancOf ms (e::l)=bif Region.binds .any e then Nat.lor (Nat.lor (Nat.pow 2 e.on) ((nth ms e.on).getD 0)) (ancOf ms l) else ancOf ms l:=rfl;rw [hc];cases hb:Region.binds .any e with
  | false =>
   simp only [cond_false];rw [ih];constructor
   ·rintro ⟨e',h1,h2⟩;exact ⟨e',List.mem_cons_of_mem _ h1,h2⟩
   ·rintro ⟨e',h1,h2,h3⟩;rcases List.mem_cons.1 h1 with rfl | h1
    ·rw [hb] at h2;cases h2
    ·exact ⟨e',h1,h2,h3⟩
  | true =>
   simp only [cond_true];rw [Pb,Pb,Bool.or_eq_true,Bool.or_eq_true,ih]
   have hp:Nat.testBit (Nat.pow 2 e.on) k=true↔k=e.on:=by
    show Nat.testBit (2 ^ e.on) k=true↔k=e.on;rw [Nat.testBit_two_pow];simp [eq_comm]
   constructor
   ·rintro ((h | h) | ⟨e',h1,h2⟩)
    ·exact ⟨e,List.mem_cons_self,hb,.inl (hp.1 h)⟩
    ·exact ⟨e,List.mem_cons_self,hb,.inr h⟩
    ·exact ⟨e',List.mem_cons_of_mem _ h1,h2⟩
   ·rintro ⟨e',h1,h2,h3⟩;rcases List.mem_cons.1 h1 with rfl | h1
    ·rcases h3 with h3 | h3
     ·exact .inl (.inl (hp.2 h3))
     ·exact .inl (.inr h3)
    ·exact .inr ⟨e',h1,h2,h3⟩
theorem Zet (ms:List Nat):ancs [] ms=ms:=rfl
theorem Af (o:Oper) (l:List Oper) (ms:List Nat):ancs (o::l) ms=ancs l (ms++[ancOf ms o.after.toList]):=rfl
theorem Mz:∀ (l:List Oper) (ms:List Nat),∃ suf,ancs l ms=ms++suf/\suf.length=l.length/\∀ j o,l[j]?=some o->suf[j]?=some (ancOf (ms++suf.take j) o.after.toList)
 | [],ms=>⟨[],by simp [Zet],rfl,fun j o h=>by simp at h⟩
 | o::l,ms=>by
  obtain ⟨suf,h1,h2,h3⟩:=Mz l (ms++[ancOf ms o.after.toList]);refine ⟨ancOf ms o.after.toList::suf,by rw [Af,h1];simp,by simp [h2],fun j o' h=>?_⟩;cases j with
  | zero=>simp at h;subst h;simp
  | succ j =>
   have:=h3 j o' (by simpa using h)
   simpa using this
/-- What the Ic say. -/
theorem Ic {ops:List Oper} (hedge:∀ i o e,ops[i]?=some o->e ∈ o.after.toList->Region.binds .any e=true->e.on<i) :
  (∀ i k,btOf (ancs ops []) i k=true↔∃ o e,ops[i]?=some o/\e ∈ o.after.toList/\Region.binds .any e=true/\(k=e.on\/btOf (ancs ops []) e.on k=true)):=by
 obtain ⟨suf,h1,h2,h3⟩:=Mz ops [];simp only [List.nil_append] at h1 h3;intro i k;unfold btOf msk;rw [h1];cases ho:ops[i]? with
 | none =>
  have hl:suf.length<=i:=by rw [h2];exact List.getElem?_eq_none_iff.1 ho
  rw [Sd,List.getElem?_eq_none hl];constructor
  ·intro h;simp at h
  ·rintro ⟨o,e,h,_⟩;cases h
 | some o =>
  rw [Sd,h3 i o ho];simp only [Option.getD_some];rw [O9];have hpre:∀ e:Edge,e.on<i->(nth (suf.take i) e.on).getD 0=(nth suf e.on).getD 0:=fun e he=>by rw [Sd,Sd,List.getElem?_take,if_pos he]
  constructor
  ·rintro ⟨e,h4,h5,h6⟩;exact ⟨o,e,J,h4,h5,h6.imp id (fun h=>by rw [<- hpre e (hedge i o e ho h4 h5)];exact h)⟩
  ·rintro ⟨o',e,h,h4,h5,h6⟩;cases h;exact ⟨e,h4,h5,h6.imp id (fun h=>by rw [hpre e (hedge i o e ho h4 h5)];exact h)⟩
theorem mask_lt {ops:List Oper} (hedge:∀ i o e,ops[i]?=some o->e ∈ o.after.toList->Region.binds .any e=true->e.on<i):∀ i k,btOf (ancs ops []) i k=true->k<i:=by
 intro i;induction i using Nat.strongRecOn with
 | _ i ih =>
  intro k h;obtain ⟨o,e,h1,h2,h3,h4⟩:=(Ic hedge i k).1 h;have hlt:=hedge i o e h1 h2 h3;rcases h4 with rfl | h4
  ·exact hlt
  ·exact Nat.lt_trans (ih e.on hlt k h4) hlt
theorem mask_tr {ops:List Oper} (hedge:∀ i o e,ops[i]?=some o->e ∈ o.after.toList->Region.binds .any e=true->e.on<i):∀ i k l,btOf (ancs ops []) i k=true->btOf (ancs ops []) k l=true->btOf (ancs ops []) i l=true:=by
 intro i;induction i using Nat.strongRecOn with
 | _ i ih =>
  intro k l h hl;obtain ⟨o,e,h1,h2,h3,h4⟩:=(Ic hedge i k).1 h;have hlt:=hedge i o e h1 h2 h3;refine (Ic hedge i l).2 ⟨o,e,h1,h2,h3,.inr ?_⟩;rcases h4 with rfl | h4
  ·exact hl
  ·exact ih e.on hlt k l h4 hl
end S
namespace S
open Go Go.RowKit E
theorem M0 {α:Type} {p:Nat->α->Bool}:∀ {l:List α} {i:Nat},U6 p i l=true->∀ j x,l[j]?=some x->p (i+j) x=true
 | [],i,_,j,x,hx=>by simp at hx
 | y::l,i,h,j,x,hx=>by
  simp only [U6,Bool.and_eq_true] at h;cases j with
  | zero=>simp at hx;subst hx;exact h.1
  | succ j =>
   have:=M0 h.2 j x (by simpa using hx);rw [<- this];congr 1;omega
theorem We {α:Type} {p:Nat->α->Bool} {l:List α} (h:U6 p 0 l=true) {j:Nat} {x:α} (hx:l[j]?=some x):p j x=true:=by
 have:=M0 h j x hx
 rwa [Nat.zero_add] at this
section
variable {P:Program} {n:Nat} {w0 w w':World} {F:List Nat} {B:Nm} {σ τ:St} {a:Act} {E:SE} {D:List SD} {o:Oper} {rec:Rec}
/-! ### Part of memory -/
theorem Sx.sub (hs:Sx w0 F B τ w) (hsub:∀ b x,σ.get b=some x->τ.get b=some x) (h1:τ.n<=σ.n) (h2:σ.n<=lim) (hn:∀ i,σ.n<=i->σ.get i=none):Sx w0 F B σ w :=
 ⟨hs.low,h2,fun i hi=>⟨(hs.new i (Nat.le_trans h1 hi)).1,hn i hi⟩,fun i sb hi=>hs.own i sb (hsub i sb hi),fun i j x y p q hi hj=>hs.apart i j x y p q (hsub i x hi) (hsub j y hj)⟩
theorem Si (i:Nat):bare.get i=none:=rfl
/-- Nothing of it. -/
theorem Sx.bare (hs:Sx w0 F B τ w):Sx w [] B bare w :=
 ⟨Fr.refl _ _,Nat.le_refl _,fun i hi=>⟨(hs.new i (Nat.le_trans hs.bd hi)).1,rfl⟩,(fun i sb hi=>by rw [Si] at hi;cases hi),(fun i j x y p q hi=>by rw [Si] at hi;cases hi)⟩
/-- The numbers of its blocks. -/
noncomputable def nums (B:Nm) (σ:St):List Nat:=(List.range σ.n).filterMap fun i=>(σ.get i).bind fun _=>(B i).map (·.1)
theorem Qe (hs:Sx w0 F B τ w) (hsub:∀ b x,σ.get b=some x->τ.get b=some x) (hn:σ.n=τ.n) {q:Nat}:q ∈ nums B σ↔∃ i x p,σ.get i=some x/\B i=some p/\p.1=q:=by
 unfold nums;simp only [List.mem_filterMap,List.mem_range,Option.bind_eq_some_iff,Option.map_eq_some_iff];constructor
 ·rintro ⟨i,_,x,hx,p,hp,e⟩;exact ⟨i,x,p,hx,hp,e⟩
 ·rintro ⟨i,x,p,hx,hp,e⟩;exact ⟨i,by rw [hn];exact hs.idx (hsub i x hx),x,hx,p,hp,e⟩
theorem Sx.part (hs:Sx w0 F B τ w) (hsub:∀ b x,σ.get b=some x->τ.get b=some x) (hn:σ.n=τ.n):Sx w (nums B σ) B σ w:=by
 refine ⟨Fr.refl _ _,by rw [hn];exact hs.bd,fun i hi=>⟨(hs.new i (by rw [<- hn];exact hi)).1,?_⟩,fun i sb hi=>?_,fun i j x y p q hi hj=>hs.apart i j x y p q (hsub i x hi) (hsub j y hj)⟩
 ·cases h:σ.get i with
  | none=>rfl
  | some x =>
   have:=hs.idx (hsub i x h);omega
 ·obtain ⟨p,hp,hk,_⟩:=hs.own i sb (hsub i sb hi);exact ⟨p,hp,hk,.inl ((Qe hs hsub hn).2 ⟨i,sb,p,hi,hp,J⟩)⟩
/-- The rest has stayed as it was. -/
theorem Sx.whole (hs:Sx w0 F B τ w) (hsub:∀ b x,σ.get b=some x->τ.get b=some x) (hn:σ.n=τ.n) {B':Nm} {post τ':St} (hpre:Pre B B') (hp:Sx w (nums B σ) B' post w') (hn':τ'.n=post.n)
  (hg:∀ b x,τ'.get b=some x->post.get b=some x\/(σ.get b=none/\τ.get b=some x)):Sx w0 F B' τ' w':=by
 have old:∀ b x,σ.get b=none->τ.get b=some x->∃ p,B b=some p/\p.1<w.heap.size/\p.1 ∉ nums B σ/\Blk B p x w.heap[p.1]?/\(p.1 ∈ F\/w0.heap.size<=p.1):=fun b x hb hx=>by
  obtain ⟨p,hp,hk,hF⟩:=hs.own b x hx;refine ⟨p,hp,hs.lt hx hp,fun hm=>?_,hk,hF⟩;obtain ⟨i,y,q,hi,hq,e⟩:=(Qe hs hsub hn).1 hm;have:=hs.apart i b y x q p (hsub i y hi) hx hq hp e;rw [this,hb] at hi;cases hi
 have new:∀ b x p,post.get b=some x->B' b=some p->p.1 ∈ nums B σ\/w.heap.size<=p.1:=fun b x p hb hp'=>by
  obtain ⟨q,hq,_,hF⟩:=hp.own b x hb;rw [hp'] at hq;cases hq;exact hF
 refine ⟨hs.low.trans hp.low (fun x hx=>?_),by rw [hn'];exact hp.bd,fun i hi=>⟨(hp.new i (by rw [<- hn'];exact hi)).1,?_⟩,fun i x hi=>?_,fun i j x y p q hi hj hpi hqj e=>?_⟩
 ·obtain ⟨i,y,q,hi,hq,rfl⟩:=(Qe hs hsub hn).1 hx;obtain ⟨q',hq',_,hF⟩:=hs.own i y (hsub i y hi);rw [hq] at hq';cases hq';exact hF
 ·cases h:τ'.get i with
  | none=>rfl
  | some x =>
   rcases hg i x h with h1 | ⟨_,h1⟩
   ·rw [(hp.new i (by rw [<- hn'];exact hi)).2] at h1;cases h1
   ·have l1:=hs.idx h1;have l2:w.heap.size<=w'.heap.size:=hp.low.size;have l3:=(hp.new i (by rw [<- hn'];exact hi)).1 (Nat.lt_of_lt_of_le l1 hs.bd);obtain ⟨p,hp',_⟩:=hs.own i x h1;rw [hpre i p hp'] at l3;cases l3
 ·rcases hg i x hi with h1 | ⟨h0,h1⟩
  ·obtain ⟨p,hp',hk,hF⟩:=hp.own i x h1;refine ⟨p,hp',hk,?_⟩;rcases hF with hF | hF
   ·obtain ⟨j,y,q,hj,hq,e⟩:=(Qe hs hsub hn).1 hF;obtain ⟨q',hq',_,hF'⟩:=hs.own j y (hsub j y hj);rw [hq] at hq';cases hq';rw [<- e];exact hF'
   ·exact .inr (Nat.le_trans hs.low.size hF)
  ·obtain ⟨p,hp',hlt,hni,hk,hF⟩:=old i x h0 h1;exact ⟨p,hpre i p hp',by rw [hp.low.block p.1 hlt hni];exact hk.mono hpre,hF⟩
 ·rcases hg i x hi with h1 | ⟨h0,h1⟩<;>rcases hg j y hj with k1 | ⟨k0,k1⟩
  ·exact hp.apart i j x y p q h1 k1 hpi hqj e
  ·obtain ⟨q',hq',hlt,hni,_⟩:=old j y k0 k1;rw [hpre j q' hq'] at hqj;cases hqj;rcases new i x p h1 hpi with h | h
   ·rw [e] at h;exact absurd h hni
   ·omega
  ·obtain ⟨q',hq',hlt,hni,_⟩:=old i x h0 h1;rw [hpre i q' hq'] at hpi;cases hpi;rcases new j y q k1 hqj with h | h
   ·rw [<- e] at h;exact absurd h hni
   ·omega
  ·obtain ⟨p',hp',_⟩:=hs.own i x h1;obtain ⟨q',hq',_⟩:=hs.own j y k1;have e1:=hpre i p' hp';have e2:=hpre j q' hq';rw [hpi] at e1;cases e1;rw [hqj] at e2;cases e2;exact hs.apart i j x y p q h1 k1 hp' hq' e
/-! ### One operation -/
theorem no_ok {v:SV} {l:Option Nat} {next:Act->World->Prop} {Q:Exit->Act->World->Prop} (hs:Sx w [] B bare w) (ha:Ags n a E D B) (h:noD P E bare o=some v) (hnext:∀ x w',den B v=some x->Below w.heap.size w w'->next (a.put o.dst x) w') :
  o.wpIn (Wz l) 0 P a w next Q:=by
 unfold noD at h;split at h
 ·rename_i σ' f hac
  cases h;refine ⟨fun _ _=>trivial,?_⟩;rw [Oper.semAt_eq _ _ _ (W7 hac)];obtain ⟨x,w1,hr,hd,hs1⟩:=U7 hs ha hac;rcases hr with hr | ⟨rfl,hr⟩
  ·rw [hr];exact hnext x w1 hd hs1.low.below
  ·rw [hr];exact hnext undef w1 hd hs1.low.below
 ·cases h
theorem rd_load {b:Nat} (h:kindOf E o.op=.rd b):∃ t x k,o.op=.load t x/\sev E x=some (.ptr b k):=by
 unfold kindOf at h;split at h<;>try (cases h;done)
 ·rename_i t x ho
  unfold kdLd at h;split at h
  ·rename_i b' k hx;cases h;exact ⟨t,x,k,ho,hx⟩
  ·cases h
 ·rename_i c ho
  unfold kdBi at h;split at h<;>cases h
 ·unfold kdSl at h;split at h<;>cases h
 ·unfold kdSl at h;split at h<;>cases h
theorem rd_ok {v:SV} {b:Nat} {σs:St} {l:Option Nat} {next:Act->World->Prop} {Q:Exit->Act->World->Prop} (hk:kindOf E o.op=.rd b) (hs:Sx w0 F B σs w) (ha:Ags n a E D B) (h:noD P E σs o=some v) (hnext:∀ x,den B v=some x->next (a.put o.dst x) w):o.wpIn (Wz l) 0 P a w next Q:=by
 obtain ⟨t,x,k,ho,hx⟩:=rd_load hk;unfold noD at h;split at h
 ·rename_i σ' f hac
  cases h
  have hv:ldAt P σs t (some (.ptr b k))=some (f 0):=by
   unfold act at hac;rw [ho] at hac;simp only [hx] at hac;have:=Xc hac;obtain ⟨u,hu,hsame⟩:=Tg this;unfold same at hsame;cases hsame;exact hu
  obtain ⟨p,hp,e⟩:=Wr (ha.eval hx);obtain ⟨y,hy,hr⟩:=P8 hs hp hv;refine ⟨fun _ _=>trivial,?_⟩;rw [Oper.semAt_eq _ _ _ (fun c e=>by rw [ho] at e;cases e)]
  have hrun:(execOp a.eval o).run P w=.ok (.value y) w:=by
   simp only [execOp,ho,e];simp [Instr.loadAt,Instr.sureAddr,hr]
  rw [hrun];exact hnext y hy
 ·cases h
theorem al_ok {v:SV} {sb:SB} {r:Nat} {l:Option Nat} {next:Act->World->Prop} {Q:Exit->Act->World->Prop} (hs:Sx w [] B bare w) (ha:Ags n a E D B) (hB:B r=none) (h:alD P E bare r o=some (v,sb))
  (hnext:∀ x w' p,den (upd B r p) v=some x->Below w.heap.size w w'->Blk (upd B r p) p sb w'.heap[p.1]?->w.heap.size<=p.1->next (a.put o.dst x) w'):o.wpIn (Wz l) 0 P a w next Q:=by
 unfold alD at h;split at h
 ·rename_i σ' sb' f hac
  cases h;refine ⟨fun _ _=>trivial,?_⟩;rw [Oper.semAt_eq _ _ _ (W7 hac)];obtain ⟨x,w1,p,hr,hs1,hnew,hF,_⟩:=U7 hs ha hac;rw [hr];have:=hnew r hB;exact hnext x w1 p this.2 hs1.low.below this.1 (hF.elim (fun h=>by cases h) id)
 ·cases h
theorem ef_ok {v:SV} {pre post:St} {r:Nat} {l:Option Nat} {next:Act->World->Prop} {Q:Exit->Act->World->Prop} (hng:Vh P) (hrec:T3 P rec) (hs:Sx w0 F B pre w) (ha:Ags n a E D B) (hB:B r=none) (hrn:r<pre.n) (h:opD P rec E pre r o=some (v,post))
  (hnext:∀ x w' B',Pre B B'->pre.n<=post.n->(∀ i,Lo pre.n i->i≠r->B' i=B i)->den B' v=some x->Sx w0 F B' post w'->next (a.put o.dst x) w'):o.wpIn (Wz l) 0 P a w next Q:=by
 unfold opD at h;split at h
 ·rename_i σ' f hac
  cases hb:Nat.beq σ'.n pre.n with
  | false=>rw [hb] at h;cases h
  | true =>
   rw [hb] at h;cases h;have hn:=Nat.eq_of_beq_eq_true hb;refine ⟨fun _ _=>trivial,?_⟩;rw [Oper.semAt_eq _ _ _ (W7 hac)];obtain ⟨x,w1,hr,hd,hs1⟩:=U7 hs ha hac;have hgo:=hnext x w1 B (Pre.refl B) (by omega) (fun _ _ _=>rfl) hd hs1;rcases hr with hr | ⟨rfl,hr⟩
   ·rw [hr];exact hgo
   ·rw [hr];exact hgo
 ·rename_i σ' sb f hac
  cases hb:Nat.beq σ'.n pre.n with
  | false=>rw [hb] at h;cases h
  | true =>
   rw [hb] at h;cases h;have hn:=Nat.eq_of_beq_eq_true hb;refine ⟨fun _ _=>trivial,?_⟩;rw [Oper.semAt_eq _ _ _ (W7 hac)];obtain ⟨x,w1,p,hr,hs1,hnew,hF,hne⟩:=U7 hs ha hac;rw [hr];have:=hnew r hB;exact hnext x w1 (upd B r p) (Pre.upd hB p) (by show pre.n<=σ'.n;omega) (fun i _ hi=>by unfold upd;rw [if_neg hi]) this.2 (hs1.lay (by rw [hn];exact hrn) hB this.1 hF hne)
 ·rename_i g m hac
  obtain ⟨x,xs,ts,ho,hx,hxs⟩:=He hac;refine ⟨fun _ _=>trivial,?_⟩;rw [Oper.semAt_eq _ _ _ (fun c e=>by rw [ho] at e;cases e)];have he:=ha.eval hx;have hm:=Ug ha hxs;have hgo:∀ (y:Value) (B1:Nm) (w1:World),Gr pre.n post.n B B1->den B1 v=some y->Sx w0 F B1 post w1->next (a.put o.dst y) w1:=fun y B1 w1 hg hd hs1=>hnext y w1 B1 hg.1 hg.2.1 (fun i hi _=>hg.2.2 i hi) hd hs1;unfold callV at h;split at h
  ·rename_i f u c
   have hr:=hrec _ _ (Um h);obtain ⟨us,vs,hus,hvs,hfe⟩:=Uu he;rw [Qq hng hr.1 ho hfe];refine ⟨fun h=>(by cases h),?_⟩;refine CallsIn.mono (hr.2 w0 F B w _ hs (Y8 (Y8 hus hm) hvs)) ?_;rintro e w1 ⟨y,B1,rfl,hg,hd,hs1⟩;exact hgo y B1 w1 hg hd hs1
  ·rename_i b
   have hr:=hrec _ _ (Um h);have he':=he;simp only [den,Option.map_eq_some_iff] at he';obtain ⟨p,hp',hfe⟩:=he';obtain ⟨f,tmps,cx,cy,hy,hround⟩:=hr w0 F B w _ p hs hm hp'
   have hrun:(execOp a.eval o).run P w=(Instr.yield p.1 (xs.map a.eval)).run P w:=by
    simp [execOp,ho,resolve,Deferred.ofValue,<- hfe,invoke]
   rw [hrun,<- C5,hy];refine ⟨fun h=>(by cases h),?_⟩;refine RoundIn.mono (show RoundIn (Wz l) (0 - 1) P p.1 f tmps cx cy w _ from hround) ?_;rintro e w1 ⟨y,B1,rfl,hg,hd,hs1⟩;exact hgo y B1 w1 hg hd hs1
  ·cases h
 ·cases h
end
end S
end Go.Proofs.YtpofmnfkdkmieaaGreat
