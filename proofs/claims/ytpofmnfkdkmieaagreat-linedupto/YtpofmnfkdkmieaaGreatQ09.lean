/- What is proved here: what was reckoned over a few places hold -/
import Derived.Test.YtpofmnfkdkmieaaGreatQ08
set_option linter.unusedVariables false
set_option linter.unusedSimpArgs false
namespace Go.Proofs.YtpofmnfkdkmieaaGreat
namespace S
open Go Go.RowKit E
mutual
def ren (ρ:Nat->Nat):SV->SV
 | .v x=>.v x
 | .ptr b o=>.ptr (ρ b) o
 | .sl b o l j=>.sl (ρ b) o l j
 | .mp b=>.mp (ρ b)
 | .ch b=>.ch (ρ b)
 | .fn f a c=>.fn f (X3 ρ a) (X3 ρ c)
 | .yd b=>.yd (ρ b)
 | .ifc t x=>.ifc t (ren ρ x)
 | .agg l=>.agg (X3 ρ l)
 | .tup l=>.tup (X3 ρ l)
def X3 (ρ:Nat->Nat):List SV->List SV
 | []=>[]
 | x::r=>ren ρ x::X3 ρ r
end
mutual
theorem Vs (B:Nm) (ρ:Nat->Nat):∀ v:SV,den (fun i=>B (ρ i)) v=den B (ren ρ v)
 | .v x=>rfl
 | .ptr b o=>rfl
 | .sl b o l j=>rfl
 | .mp b=>rfl
 | .ch b=>rfl
 | .fn f a c=>by simp only [den,ren];rw [Vg B ρ a,Vg B ρ c]
 | .yd b=>rfl
 | .ifc t x=>by simp only [den,ren];rw [Vs B ρ x]
 | .agg l=>by simp only [den,ren];rw [Vg B ρ l]
 | .tup l=>by simp only [den,ren];rw [Vg B ρ l]
theorem Vg (B:Nm) (ρ:Nat->Nat):∀ l:List SV,Ym (fun i=>B (ρ i)) l=Ym B (X3 ρ l)
 | []=>rfl
 | x::r=>by simp only [Ym,X3];rw [Vs B ρ x,Vg B ρ r]
end
mutual
theorem L4 (ρ τ:Nat->Nat):∀ v:SV,ren ρ (ren τ v)=ren (fun i=>ρ (τ i)) v
 | .v x=>rfl
 | .ptr b o=>rfl
 | .sl b o l j=>rfl
 | .mp b=>rfl
 | .ch b=>rfl
 | .fn f a c=>by simp only [ren];rw [Ta ρ τ a,Ta ρ τ c]
 | .yd b=>rfl
 | .ifc t x=>by simp only [ren];rw [L4 ρ τ x]
 | .agg l=>by simp only [ren];rw [Ta ρ τ l]
 | .tup l=>by simp only [ren];rw [Ta ρ τ l]
theorem Ta (ρ τ:Nat->Nat):∀ l:List SV,X3 ρ (X3 τ l)=X3 (fun i=>ρ (τ i)) l
 | []=>rfl
 | x::r=>by simp only [X3];rw [L4 ρ τ x,Ta ρ τ r]
end
mutual
theorem Gb:∀ v:SV,ren (fun i=>i) v=v
 | .v x=>rfl
 | .ptr b o=>rfl
 | .sl b o l j=>rfl
 | .mp b=>rfl
 | .ch b=>rfl
 | .fn f a c=>by simp only [ren];rw [Sy a,Sy c]
 | .yd b=>rfl
 | .ifc t x=>by simp only [ren];rw [Gb x]
 | .agg l=>by simp only [ren];rw [Sy l]
 | .tup l=>by simp only [ren];rw [Sy l]
theorem Sy:∀ l:List SV,X3 (fun i=>i) l=l
 | []=>rfl
 | x::r=>by simp only [X3];rw [Gb x,Sy r]
end
def Cn (ρ:Nat->Nat) (E:SE):SE:=E.map fun p=>(p.1,ren ρ p.2)
theorem Qo (ρ:Nat->Nat) (i:Nat):∀ E:SE,slook (Cn ρ E) i=(slook E i).map (ren ρ)
 | []=>rfl
 | (j,v)::r=>by
  show slook ((j,ren ρ v)::Cn ρ r) i=_;rw [Z9,Z9,Qo ρ i r];cases Nat.beq i j<;>rfl
theorem Tm_ren (B:Nm) (ρ:Nat->Nat) (E:SE) (n:Nat) (t:Array Value):Tm (fun i=>B (ρ i)) E n t↔Tm B (Cn ρ E) n t:=by
 unfold Tm;refine and_congr Iff.rfl ⟨fun h i v hv=>?_,fun h i v hv=>?_⟩
 ·rw [Qo,Option.map_eq_some_iff] at hv;obtain ⟨u,hu,rfl⟩:=hv;obtain ⟨x,hx,ht⟩:=h i u hu;exact ⟨x,by rw [<- Vs];exact hx,ht⟩
 ·obtain ⟨x,hx,ht⟩:=h i (ren ρ v) (by rw [Qo,hv];rfl);exact ⟨x,by rw [Vs];exact hx,ht⟩
def Qt (ρ:Nat->Nat) (l:List (ByteArray × SV)):List (ByteArray × SV):=l.map fun p=>(p.1,ren ρ p.2)
theorem I1 (B:Nm) (ρ:Nat->Nat):∀ (l:List (ByteArray × SV)) (es:List MapEntry),Qi (fun i=>B (ρ i)) l es↔Qi B (Qt ρ l) es
 | [],[]=>Iff.rfl
 | (k,v)::r,e::l=>by
  show (_/\_/\_)↔(_/\_/\_);rw [Vs,I1 B ρ r l];exact Iff.rfl
 | [],_::_=>Iff.rfl
 | _::_,[]=>Iff.rfl
def W4 (ρ:Nat->Nat):SB->SB
 | .cells l=>.cells (X3 ρ l)
 | .row e sz k l=>.row e sz k (X3 ρ l)
 | .map es=>.map (Qt ρ es)
 | .chan c k=>.chan c k
 | .loop st pd E n ps x y=>.loop st pd (Cn ρ E) n ps x y
 | .defd=>.defd
 | .iter m=>.iter (ρ m)
 | .seen l t fr=>.seen (X3 ρ l) t fr
theorem D5 (B:Nm) (ρ:Nat->Nat) (p:Nat × Nat) (o:Option Obj):∀ sb:SB,Blk (fun i=>B (ρ i)) p sb o↔Blk B p (W4 ρ sb) o
 | .cells l=>by simp only [Blk,W4,Vg]
 | .row e sz k l=>by simp only [Blk,W4,Vg]
 | .map es=>by simp only [Blk,W4,I1]
 | .chan c k=>Iff.rfl
 | .loop st pd E n ps x y=>by simp only [Blk,W4,Tm_ren]
 | .defd=>Iff.rfl
 | .iter m=>Iff.rfl
 | .seen l t fr=>by simp only [Blk,W4,Vg]
structure Gx (w0:World) (F:List Nat) (B:Nm) (N:Nat) (G:Nat->Option SB) (w:World):Prop where
 low:Fr F w0 w
 new:∀ i,N<=i->B i=none/\G i=none
 own:∀ (i:Nat) (sb:SB),G i=some sb->∃ p,B i=some p/\Blk B p sb w.heap[p.1]?/\(p.1 ∈ F\/w0.heap.size<=p.1)
 apart:∀ (i j:Nat) (x y:SB) (p q:Nat × Nat),G i=some x->G j=some y->B i=some p->B j=some q->p.1=q.1->i=j
def rho (bs:List Nat) (N:Nat) (i:Nat):Nat:=match bs[i]? with
 | some g=>g
 | none=>if i<lim then N+(i - bs.length) else i - lim
def sh (v:SV):SV:=ren (fun i=>i+lim) v
def shL (l:List SV):List SV:=X3 (fun i=>i+lim) l
section
variable {bs:List Nat} {N:Nat}
theorem Qs {i g:Nat} (h:bs[i]?=some g):rho bs N i=g:=by unfold rho;rw [h]
theorem L1 (hl:bs.length<=lim) {j:Nat} (h:bs.length+j<lim):rho bs N (bs.length+j)=N+j:=by
 unfold rho;rw [List.getElem?_eq_none (by omega)];simp only;rw [if_pos h];omega
theorem Ly (hl:bs.length<=lim) (g:Nat):rho bs N (g+lim)=g:=by
 unfold rho;rw [List.getElem?_eq_none (by omega)];simp only;rw [if_neg (by omega)];omega
theorem X7 (hl:bs.length<=lim) (v:SV):ren (rho bs N) (sh v)=v:=by
 unfold sh;rw [L4,show (fun i=>rho bs N (i+lim))=fun i=>i from funext fun i=>Ly hl i,Gb]
theorem Qb (hl:bs.length<=lim) (l:List SV):X3 (rho bs N) (shL l)=l:=by
 unfold shL;rw [Ta,show (fun i=>rho bs N (i+lim))=fun i=>i from funext fun i=>Ly hl i,Sy]
end
noncomputable def after (bs:List Nat) (N:Nat) (G:Nat->Option SB) (σ:St) (g:Nat):Option SB :=
 if g ∈ bs then (σ.get (bs.idxOf g)).map (W4 (rho bs N)) else if g<N then G g else if bs.length+(g - N)<σ.n then (σ.get (bs.length+(g - N))).map (W4 (rho bs N)) else none
section
variable {w0 w w':World} {F:List Nat} {B:Nm} {N:Nat} {G:Nat->Option SB} {bs:List Nat} {σ σ':St}
theorem Gx.lt (hg:Gx w0 F B N G w) {g:Nat} {sb:SB} (h:G g=some sb):g<N:=by
 rcases Nat.lt_or_ge g N with h' | h'
 ·exact h'
 ·rw [(hg.new g h').2] at h;cases h
theorem Gx.inw (hg:Gx w0 F B N G w) {g:Nat} {sb:SB} {p:Nat × Nat} (h:G g=some sb) (hp:B g=some p):p.1<w.heap.size:=by
 obtain ⟨q,hq,hb,_⟩:=hg.own g sb h;rw [hp] at hq;cases hq;obtain ⟨x,hx⟩:=hb.some;exact (Array.getElem?_eq_some_iff.1 hx).1
def Ql (B:Nm) (bs:List Nat):List Nat:=bs.filterMap fun g=>(B g).map (·.1)
theorem Kz {x:Nat}:x ∈ Ql B bs↔∃ g p,g ∈ bs/\B g=some p/\p.1=x:=by
 unfold Ql;rw [List.mem_filterMap];constructor
 ·rintro ⟨g,hg,h⟩;obtain ⟨p,hp,e⟩:=Option.map_eq_some_iff.1 h;exact ⟨g,p,hg,hp,e⟩
 ·rintro ⟨g,p,hg,hp,e⟩;exact ⟨g,hg,by rw [hp,<- e];rfl⟩
structure Few (bs:List Nat) (N:Nat) (G:Nat->Option SB) (σ:St):Prop where
 n:σ.n=bs.length
 lim:bs.length<=lim
 nodup:bs.Nodup
 own:∀ i sb,σ.get i=some sb->∃ g,bs[i]?=some g/\G g=some (W4 (rho bs N) sb)
 all:∀ i g,bs[i]?=some g->∃ sb,σ.get i=some sb
theorem Few.mem (hf:Few bs N G σ) {g:Nat} (h:g ∈ bs):∃ i sb,bs[i]?=some g/\σ.get i=some sb/\G g=some (W4 (rho bs N) sb):=by
 obtain ⟨i,hi⟩:=List.mem_iff_getElem?.1 h;obtain ⟨sb,hs⟩:=hf.all i g hi;obtain ⟨g',hg',hG⟩:=hf.own i sb hs;rw [hi] at hg';cases hg';exact ⟨i,sb,hi,hs,hG⟩
theorem Gx.few (hg:Gx w0 F B N G w) (hf:Few bs N G σ):Sx w (Ql B bs) (fun i=>B (rho bs N i)) σ w:=by
 refine ⟨Fr.refl _ _,by rw [hf.n];exact hf.lim,fun i hi=>?_,fun i sb hi=>?_,fun i j x y p q hi hj hp hq e=>?_⟩
 ·rw [hf.n] at hi;refine ⟨fun hl=>?_,?_⟩
  ·have:=L1 (N:=N) hf.lim (j:=i - bs.length) (by omega);rw [show bs.length+(i - bs.length)=i by omega] at this;show B (rho bs N i)=none;rw [this];exact (hg.new _ (by omega)).1
  ·cases h:σ.get i with
   | none=>rfl
   | some sb =>
    obtain ⟨g,hg',_⟩:=hf.own i sb h;rw [List.getElem?_eq_none hi] at hg';cases hg'
 ·obtain ⟨g,hi',hG⟩:=hf.own i sb hi;obtain ⟨p,hp,hb,_⟩:=hg.own g _ hG;exact ⟨p,by rw [Qs hi'];exact hp,(D5 B (rho bs N) p _ sb).2 hb,.inl (Kz.2 ⟨g,p,List.mem_of_getElem? hi',hp,J⟩)⟩
 ·obtain ⟨g,hi',hG⟩:=hf.own i x hi;obtain ⟨h,hj',hH⟩:=hf.own j y hj;have hp':B (rho bs N i)=some p:=hp;have hq':B (rho bs N j)=some q:=hq;rw [Qs hi'] at hp';rw [Qs hj'] at hq';have:=hg.apart g h _ _ p q hG hH hp' hq' e;subst this;exact (List.getElem?_inj (List.getElem?_eq_some_iff.1 hi').1 hf.nodup).1 (by rw [hi',hj'])
theorem Gx.back (hg:Gx w0 F B N G w) (hf:Few bs N G σ) {Bl:Nm} (hs:Sx w (Ql B bs) Bl σ' w') (hgr:Gr σ.n σ'.n (fun i=>B (rho bs N i)) Bl) :
  ∃ B',Pre B B'/\(∀ i,i<N->B' i=B i)/\Pre Bl (fun i=>B' (rho bs N i))/\Gx w0 F B' (N+(σ'.n - bs.length)) (after bs N G σ') w':=by
 have hlim:=hf.lim;have hk:bs.length<=σ'.n:=by rw [<- hf.n];exact hgr.2.1
 have hbd:=hs.bd;let B':Nm:=fun g=>if g<N then B g else if bs.length+(g - N)<σ'.n then Bl (bs.length+(g - N)) else none;have hB0:∀ i,i<N->B' i=B i:=fun i hi=>if_pos hi
 have hin:∀ g,g ∈ bs->g<N:=fun g h=>by
  obtain ⟨i,sb,_,_,hG⟩:=hf.mem h;exact hg.lt hG
 have hpre:Pre B B':=fun i p hp=>by
  rw [hB0 i (by
   rcases Nat.lt_or_ge i N with h' | h'
   ·exact h'
   ·rw [(hg.new i h').1] at hp;cases hp)]
  exact hp
 have hnewr:∀ i,bs.length<=i->i<lim->rho bs N i=N+(i - bs.length):=fun i h1 h2=>by
  have:=L1 (N:=N) hlim (j:=i - bs.length) (by omega)
  rwa [show bs.length+(i - bs.length)=i by omega] at this
 have hPl:Pre Bl (fun i=>B' (rho bs N i)):=by
  intro i p hp;show B' (rho bs N i)=some p;cases hi:bs[i]? with
  | some g =>
   have hlt:i<bs.length:=(List.getElem?_eq_some_iff.1 hi).1;have:=hgr.2.2 i (.inl (by rw [hf.n];exact hlt));rw [this] at hp;have hp':B (rho bs N i)=some p:=hp;rw [Qs hi] at hp' ⊢;rw [hB0 g (hin g (List.mem_of_getElem? hi))];exact hp'
  | none =>
   have hge:bs.length<=i:=List.getElem?_eq_none_iff.1 hi;rcases Nat.lt_or_ge i lim with hl | hl
   ·rcases Nat.lt_or_ge i σ'.n with hn | hn
    ·rw [hnewr i hge hl];show (if _ then _ else _)=_;rw [if_neg (by omega),show bs.length+(N+(i - bs.length) - N)=i by omega,if_pos hn];exact hp
    ·rw [(hs.new i hn).1 hl] at hp;cases hp
   ·have:=hgr.2.2 i (.inr hl);rw [this] at hp;exact hpre _ _ hp
 have hFl:∀ x,x ∈ Ql B bs->x ∈ F\/w0.heap.size<=x:=fun x hx=>by
  obtain ⟨g,p,hgb,hp,rfl⟩:=Kz.1 hx;obtain ⟨i,sb,_,_,hG⟩:=hf.mem hgb;obtain ⟨q,hq,_,hF⟩:=hg.own g _ hG;rw [hp] at hq;cases hq;exact hF
 have hcase:∀ g sb,after bs N G σ' g=some sb->(∃ i sbl,rho bs N i=g/\σ'.get i=some sbl/\sb=W4 (rho bs N) sbl)\/(g<N/\g ∉ bs/\G g=some sb):=by
  intro g sb h;unfold after at h;by_cases hm:g ∈ bs
  ·rw [if_pos hm] at h;obtain ⟨sbl,h1,h2⟩:=Option.map_eq_some_iff.1 h;exact .inl ⟨bs.idxOf g,sbl,Qs (by rw [List.getElem?_eq_getElem (List.idxOf_lt_length_of_mem hm),List.getElem_idxOf]),h1,h2.symm⟩
  ·rw [if_neg hm] at h;by_cases hN:g<N
   ·rw [if_pos hN] at h;exact .inr ⟨hN,hm,h⟩
   ·rw [if_neg hN] at h;by_cases hn:bs.length+(g - N)<σ'.n
    ·rw [if_pos hn] at h;obtain ⟨sbl,h1,h2⟩:=Option.map_eq_some_iff.1 h;exact .inl ⟨_,sbl,by rw [hnewr _ (by omega) (by omega)];omega,h1,h2.symm⟩
    ·rw [if_neg hn] at h;cases h
 have hold:∀ g sb p,g<N->g ∉ bs->G g=some sb->B g=some p->p.1<w.heap.size/\p.1 ∉ Ql B bs:=by
  intro g sb p hN hm hG hp;refine ⟨hg.inw hG hp,fun hx=>?_⟩;obtain ⟨g',p',hgb,hp',e⟩:=Kz.1 hx;obtain ⟨i,sb',_,_,hG'⟩:=hf.mem hgb;have:=hg.apart g g' _ _ p p' hG hG' hp hp' e.symm;subst this;exact hm hgb
 refine ⟨B',hpre,hB0,hPl,⟨hg.low.trans hs.low hFl,fun i hi=>?_,fun g sb h=>?_,fun g h x y p q hg1 hh1 hp hq e=>?_⟩⟩
 ·refine ⟨?_,?_⟩
  ·show (if _ then _ else _)=_;rw [if_neg (by omega),if_neg (by omega)]
  ·unfold after;rw [if_neg (fun hm=>by have:=hin i hm;omega),if_neg (by omega),if_neg (by omega)]
 ·rcases hcase g sb h with ⟨i,sbl,rfl,h1,rfl⟩ | ⟨hN,hm,hG⟩
  ·obtain ⟨p,hp,hb,hF⟩:=hs.own i sbl h1;refine ⟨p,hPl i p hp,(D5 B' (rho bs N) p _ sbl).1 (hb.mono hPl),?_⟩;rcases hF with hF | hF
   ·exact hFl _ hF
   ·exact .inr (Nat.le_trans hg.low.size hF)
  ·obtain ⟨p,hp,hb,hF⟩:=hg.own g sb hG;obtain ⟨hlt,hnm⟩:=hold g sb p hN hm hG hp;exact ⟨p,hpre g p hp,by rw [hs.low.block p.1 hlt hnm];exact hb.mono hpre,hF⟩
 ·have key:∀ (i:Nat) (sbl:SB) (p:Nat × Nat),σ'.get i=some sbl->B' (rho bs N i)=some p->Bl i=some p/\(p.1 ∈ Ql B bs\/w.heap.size<=p.1):=by
   intro i sbl p h1 hp;obtain ⟨p',hp',_,hF⟩:=hs.own i sbl h1;have:=hPl i p' hp';have:B' (rho bs N i)=some p':=this;rw [hp] at this;cases this;exact ⟨hp',hF⟩
  rcases hcase g x hg1 with ⟨i,sbl,rfl,h1,rfl⟩ | ⟨hN,hm,hG⟩<;>rcases hcase h y hh1 with ⟨j,sbm,rfl,h2,rfl⟩ | ⟨hN2,hm2,hG2⟩
  ·obtain ⟨k1,_⟩:=key i sbl p h1 hp;obtain ⟨k2,_⟩:=key j sbm q h2 hq;rw [hs.apart i j _ _ p q h1 h2 k1 k2 e]
  ·obtain ⟨k1,k2⟩:=key i sbl p h1 hp;have hq':B h=some q:=by rw [<- hB0 h hN2];exact hq
   obtain ⟨l1,l2⟩:=hold h y q hN2 hm2 hG2 hq';rcases k2 with k2 | k2
   ·exact absurd (e ▸ k2) l2
   ·omega
  ·obtain ⟨k1,k2⟩:=key j sbm q h2 hq;have hp':B g=some p:=by rw [<- hB0 g hN];exact hp
   obtain ⟨l1,l2⟩:=hold g x p hN hm hG hp';rcases k2 with k2 | k2
   ·exact absurd (e ▸ k2) l2
   ·omega
  ·exact hg.apart g h x y p q hG hG2 (by rw [<- hB0 g hN];exact hp) (by rw [<- hB0 h hN2];exact hq) e
end
theorem Gw {P:Program} {f:FuncId} {args:List SV} {v:SV} {σ σ':St} (h:Ok P (.call f args σ) (.val v σ')) {bs:List Nat} {N:Nat} {G:Nat->Option SB} (hf:Few bs N G σ) {w0 w:World} {F:List Nat} {B:Nm} (hg:Gx w0 F B N G w) {vs:List Value} (hd:Ym B (X3 (rho bs N) args)=some vs) :
  CallsIn (Wz none) 0 P f vs.toArray w fun e w'=>∃ x B',e=.returned x/\Pre B B'/\(∀ i,i<N->B' i=B i)/\den B' (ren (rho bs N) v)=some x/\Gx w0 F B' (N+(σ'.n - bs.length)) (after bs N G σ') w':=by
 refine (h.2 w (Ql B bs) (fun i=>B (rho bs N i)) w vs (hg.few hf) (by rw [Vg];exact hd)).mono ?_;rintro e w' ⟨x,Bl,rfl,hgr,hx,hs⟩;obtain ⟨B',hpre,hB0,hPl,hg'⟩:=hg.back hf hs hgr;exact ⟨x,B',J,hpre,hB0,by rw [<- Vs];exact Xl hPl v x hx,hg'⟩
end S
namespace S
open Go Go.RowKit E
def shD:SD->SD
 | .mark b=>.mark (b+lim)
 | .clo f c=>.clo f (shL c)
section
variable {P:Program} {l:Option Nat} {n:Nat} {all:Array Oper} {w0 w:World} {F:List Nat} {B B0:Nm} {N N0:Nat} {G:Nat->Option SB} {bs:List Nat} {σ σ':St} {E El E':SE} {D:List SD} {a:Act} {o:Oper} {L:List Oper} {Q:Exit->Act->World->Prop}
theorem denL_sh (hl:bs.length<=lim) (x:List SV):Ym (fun i=>B (rho bs N i)) (shL x)=Ym B x:=by rw [Vg,Qb hl]
theorem I3 (hl:bs.length<=lim):∀ D:List SD,W8 (fun i=>B (rho bs N i)) (D.map shD)=W8 B D
 | []=>rfl
 | x::r=>by
  have h1:Rh (fun i=>B (rho bs N i)) (shD x)=Rh B x:=by
   cases x with
   | mark b=>simp only [Rh,shD];rw [Ly hl]
   | clo f c=>simp only [Rh,shD];rw [denL_sh hl]
  simp only [List.map_cons,W8];rw [h1,I3 hl r]
def V8 (ρ:Nat->Nat) (E:SE):SE->Prop
 | []=>True
 | p::r=>slook E p.1=some (ren ρ p.2)/\V8 ρ E r
theorem V8.get {ρ:Nat->Nat}:∀ {El:SE},V8 ρ E El->∀ i v,slook El i=some v->slook E i=some (ren ρ v)
 | [],_,i,v,h=>by cases h
 | (j,u)::r,ht,i,v,h=>by
  rw [Z9] at h;cases hb:Nat.beq i j with
  | true=>rw [hb] at h;cases h;have:=Nat.eq_of_beq_eq_true hb;subst this;exact ht.1
  | false=>rw [hb] at h;exact ht.2.get i v h
theorem Ags.few (ha:Ags n a E D B) (hl:bs.length<=lim) (hE:V8 (rho bs N) E El):Ags n a El (D.map shD) (fun i=>B (rho bs N i)):=by
 refine ⟨⟨ha.tm.1,fun i v hv=>?_⟩,by rw [I3 hl];exact ha.df⟩;obtain ⟨x,hx,ht⟩:=ha.tm.2 i _ (hE.get i v hv);exact ⟨x,by rw [Vs];exact hx,ht⟩
structure Since (B0:Nm) (N0:Nat) (B:Nm) (N:Nat):Prop where
 pre:Pre B0 B
 le:N0<=N
 old:∀ i,i<N0->B i=B0 i
theorem Since.refl (B:Nm) (N:Nat):Since B N B N:=⟨Pre.refl B,Nat.le_refl _,fun _ _=>rfl⟩
theorem Since.trans {B1 B2:Nm} {N1 N2:Nat} (h:Since B0 N0 B1 N1) (k:Since B1 N1 B2 N2):Since B0 N0 B2 N2:=⟨h.pre.trans k.pre,Nat.le_trans h.le k.le,fun i hi=>(k.old i (Nat.lt_of_lt_of_le hi h.le)).trans (h.old i hi)⟩
theorem Gx.op {r:OpR} {v:SV} (hg:Gx w0 F B N G w) (hf:Few bs N G σ) (ha:Ags n a E D B) (hE:V8 (rho bs N) E El) (h:act P El σ o=some (.val r)) (hl:lodge σ.n r=some (v,σ')) :
  ∃ x w' B',((execOp a.eval o).run P w=.ok (.value x) w'\/(x=undef/\(execOp a.eval o).run P w=.ok .skip w'))/\Since B N B' (N+(σ'.n - bs.length))/\den B' (ren (rho bs N) v)=some x/\Gx w0 F B' (N+(σ'.n - bs.length)) (after bs N G σ') w':=by
 obtain ⟨x,w1,Bl,hr,hgr,hd,hs1⟩:=Oq (U7 (hg.few hf) (ha.few hf.lim hE) h) hl;obtain ⟨B',hpre,hB0,hPl,hg'⟩:=hg.back hf hs1 hgr;exact ⟨x,w1,B',hr,⟨hpre,Nat.le_add_right _ _,hB0⟩,by rw [<- Vs];exact Xl hPl v x hd,hg'⟩
def GL (P:Program) (l:Option Nat) (n:Nat) (all:Array Oper) (w0:World) (F:List Nat) (B0:Nm) (N0:Nat) (Q:Exit->Act->World->Prop) (L:List Oper) (E:SE) (D:List SD) (N:Nat) (G:Nat->Option SB):Prop :=
 ∀ B w a,Since B0 N0 B N->Gx w0 F B N G w->Ags n a E D B->wpListIn (Wz l) 0 P all Q L a w
def GC (P:Program) (l:Option Nat) (n:Nat) (w0:World) (F:List Nat) (B0:Nm) (N0:Nat) (Q:Exit->Act->World->Prop) (c:Code) (E:SE) (D:List SD) (N:Nat) (G:Nat->Option SB):Prop :=
 ∀ B w a,Since B0 N0 B N->Gx w0 F B N G w->Ags n a E D B->c.wpIn (Wz l) 0 P Q a w
theorem Ng (h:∀ B w a,Since B0 N0 B N->Gx w0 F B N G w->Ags n a E D B->Q .normal a w):GL P l n all w0 F B0 N0 Q [] E D N G:=h
theorem Dy {r:OpR} {v:SV} (hw:wants E all o.guard=some true) (hf:Few bs N G σ) (hE:V8 (rho bs N) E El) (h:act P El σ o=some (.val r)) (hl:lodge σ.n r=some (v,σ')) (hp:putD n E o.dst (ren (rho bs N) v)=some E')
  (k:GL P l n all w0 F B0 N0 Q L E' D (N+(σ'.n - bs.length)) (after bs N G σ')):GL P l n all w0 F B0 N0 Q (o::L) E D N G:=by
 intro B w a hs hg ha;simp only [wpListIn,Y6 ha hw];refine ⟨fun _ _=>trivial,?_⟩;rw [Oper.semAt_eq _ _ _ (W7 h)];obtain ⟨x,w1,B1,hr,hsi,hd,hg1⟩:=hg.op hf ha hE h hl;have hgo:=k B1 w1 (a.put o.dst x) (hs.trans hsi) hg1 (W5 (ha.mono hsi.pre) hd hp);rcases hr with hr | ⟨rfl,hr⟩
 ·rw [hr];exact hgo
 ·rw [hr];exact hgo
theorem GL_no (hw:wants E all o.guard=some false) (hp:putD n E o.dst (.tup [])=some E') (k:GL P l n all w0 F B0 N0 Q L E' D N G):GL P l n all w0 F B0 N0 Q (o::L) E D N G:=by
 intro B w a hs hg ha;simp only [wpListIn,Y6 ha hw];exact ⟨fun _ _=>trivial,k B w _ hs hg (W5 ha (v:=.tup []) (x:=undef) J hp)⟩
def GF (P:Program) (f:FuncId) (args:List SV) (N:Nat) (G:Nat->Option SB) (R:SV->Nat->(Nat->Option SB)->Prop):Prop :=
 (∃ fn,P.funcs[f]?=some fn/\fn.body.isNone=false)/\∀ (w0:World) (F:List Nat) (B:Nm) (w:World) (vs:List Value),Gx w0 F B N G w->Ym B args=some vs ->
  CallsIn (Wz none) 0 P f vs.toArray w fun e w'=>∃ v N' G' x B',R v N' G'/\e=.returned x/\Since B N B' N'/\den B' v=some x/\Gx w0 F B' N' G' w'
theorem GF.mono {f:FuncId} {args:List SV} {R R':SV->Nat->(Nat->Option SB)->Prop} (h:GF P f args N G R) (hr:∀ v N' G',R v N' G'->R' v N' G'):GF P f args N G R' :=
 ⟨h.1,fun w0 F B w vs hg hd=>(h.2 w0 F B w vs hg hd).mono fun _ _ ⟨v,N',G',x,B',hR,r⟩=>⟨v,N',G',x,B',hr _ _ _ hR,r⟩⟩
theorem gfRun {f:FuncId} {args:List SV} {v:SV} (h:Ok P (.call f args σ) (.val v σ')) (hf:Few bs N G σ) :
  GF P f (X3 (rho bs N) args) N G fun u N' G'=>u=ren (rho bs N) v/\N'=N+(σ'.n - bs.length)/\G'=after bs N G σ' :=
 ⟨h.1,fun w0 F B w vs hg hd=>(Gw h hf hg hd).mono fun e w' ⟨x,B',he,hpre,hold,hx,hg'⟩=>⟨_,_,_,x,B',⟨rfl,rfl,rfl⟩,he,⟨hpre,Nat.le_add_right _ _,hold⟩,hx,hg'⟩⟩
theorem Re {x:Operand} {xs:Array Operand} {ts:Array TypeId} {f:FuncId} {u c m:List SV} {R:SV->Nat->(Nat->Option SB)->Prop} (hng:Vh P) (hw:wants E all o.guard=some true) (ho:o.op=.call ⟨.value x,xs,ts⟩) (hx:sev E x=some (.fn f u c)) (hxs:sargs E xs.toList=some m)
  (hF:GF P f (u++m++c) N G R) (k:∀ v N' G',R v N' G'->∃ E',putD n E o.dst v=some E'/\GL P l n all w0 F B0 N0 Q L E' D N' G'):GL P l n all w0 F B0 N0 Q (o::L) E D N G:=by
 intro B w a hs hg ha;simp only [wpListIn,Y6 ha hw];refine ⟨fun _ _=>trivial,?_⟩;rw [Oper.semAt_eq _ _ _ (fun c e=>by rw [ho] at e;cases e)];have he:=ha.eval hx;have hm:=Ug ha hxs;obtain ⟨us,vs,hus,hvs,hfe⟩:=Uu he;rw [Qq hng hF.1 ho hfe];refine ⟨fun h=>(by cases h),?_⟩;refine CallsIn.mono (hF.2 w0 F B w _ hg (Y8 (Y8 hus hm) hvs)) ?_;rintro e w1 ⟨v,N',G',y,B1,hR,rfl,hsi,hd,hg1⟩;obtain ⟨E',hp,hk⟩:=k v N' G' hR;exact hk B1 w1 _ (hs.trans hsi) hg1 (W5 (ha.mono hsi.pre) hd hp)
variable {x y:Code}
theorem GC_seq (h:GC P l n w0 F B0 N0 (Exit.then (y.wpIn (Wz l) 0 P Q) Q) x E D N G):GC P l n w0 F B0 N0 Q (.seq x y) E D N G:=fun B w a hs hg ha=>wpIn_seq (h B w a hs hg ha)
theorem Aj {id:Nat} (h:GL P l n L.toArray w0 F B0 N0 Q L E D N G):GC P l n w0 F B0 N0 Q (.region id L.toArray false) E D N G:=fun B w a hs hg ha=>wpIn_region_lit (h B w a hs hg ha)
theorem GC_if {c:Operand} {b:Bool} (hc:sev E c=some (Zb b)) (h1:b=true->GC P l n w0 F B0 N0 Q x E D N G) (h2:b=false->GC P l n w0 F B0 N0 Q y E D N G):GC P l n w0 F B0 N0 Q (.cond c x y) E D N G:=fun B w a hs hg ha =>
 wpIn_cond_split (Xk (ha.eval hc)) (fun e=>h1 e B w a hs hg ha) (fun e=>h2 e B w a hs hg ha)
theorem Zfd {id:Nat} (h:GC P l n w0 F B0 N0 (Exit.inBlock id Q) x E D N G):GC P l n w0 F B0 N0 Q (.block id x) E D N G:=fun B w a hs hg ha=>wpIn_block (h B w a hs hg ha)
def Fin (B0:Nm) (N0:Nat) (w0:World) (F:List Nat) (R:SV->Nat->(Nat->Option SB)->Prop) (e:Ending) (w':World):Prop:=∃ v N' G' x B',R v N' G'/\e=.returned x/\Since B0 N0 B' N'/\den B' v=some x/\Gx w0 F B' N' G' w'
theorem gfOf {f:FuncId} {fn:Func} {c:Code} {args:List SV} {R:SV->Nat->(Nat->Option SB)->Prop} (hf:P.funcs[f]?=some fn) (hb:fn.body=some c) (hl:Nat.ble args.length fn.ntmps=true)
  (h:∀ w0 F B0,GC P none fn.ntmps w0 F B0 N (bodyPostM (Wz none) 0 P fn (Fin B0 N w0 F R)) c (snumber 0 args) [] N G):GF P f args N G R:=by
 refine ⟨⟨fn,hf,by rw [hb];rfl⟩,fun w0 F B w vs hg hd=>?_⟩;refine callsIn_of_wp_marks hf hb trivial ?_;refine h w0 F B B w _ (Since.refl B N) hg ⟨⟨by simp only [Array.size_append,Array.size_replicate];omega,fun i v hv=>?_⟩,rfl⟩;obtain ⟨_,hv⟩:=Tq args 0 i v hv;rw [Nat.sub_zero] at hv;obtain ⟨x,hx,hdx⟩:=Vt hd hv;refine ⟨x,hdx,?_⟩;have hlt:i<vs.length:=(List.getElem?_eq_some_iff.1 hx).1;rw [Array.getElem?_append_left (by simpa using hlt)]
 simpa using hx
theorem Km {fn:Func} {m:List SV} {R:SV->Nat->(Nat->Option SB)->Prop} (hng:Vh P) (hf:Few bs N G σ) (hE:V8 (rho bs N) E El) (hr:resL P El σ fn.results.toList=some m) (hR:R (ren (rho bs N) (resV m)) N G) (hs:Since B0 N0 B N) (hg:Gx w0 F B N G w) (ha:Ags n a E [] B) :
  LeavesInM (Wz none) 0 P fn a.tmps (Fin B0 N0 w0 F R) a.defers .returning w:=by
 have ha':=ha.few hf.lim hE;obtain ⟨x,hx,hrun⟩:=L2 (P:=P) (a:=a) (hg.few hf) ha'.tm hr;have hd:a.defers=[]:=by have:=ha.df;simp only [W8,Option.some.injEq] at this;exact this.symm
 rw [hd];exact (show LeavesIn (Wz none) 0 P fn a.tmps (Fin B0 N0 w0 F R) [] .returning w from ⟨x,hrun,_,N,G,x,B,hR,J,hs,by rw [<- Vs];exact hx,hg⟩)
end
end S
namespace S
open Go Go.RowKit E
def Vb (G:Nat->Option SB) (b:Nat) (x:SB):Nat->Option SB:=fun g=>if g=b then some x else G g
theorem Uf (G:Nat->Option SB) (b:Nat) (x:SB):Vb G b x b=some x:=if_pos rfl
theorem Xm (G:Nat->Option SB) {b g:Nat} (x:SB) (h:g≠b):Vb G b x g=G g:=if_neg h
def shB (x:SB):SB:=W4 (fun i=>i+lim) x
noncomputable def one (x:SB):St:=(⟨1,.nil⟩:St).set 0 (some x)
theorem Xj (x:SB) (i:Nat):(one x).get i=if i=0 then some x else none:=by
 unfold one;rw [St.get_set _ (by unfold lim;omega)];rfl
theorem renE_sh {bs:List Nat} {N:Nat} (hl:bs.length<=lim) (E:SE):Cn (rho bs N) (Cn (fun i=>i+lim) E)=E:=by
 induction E with
 | nil=>rfl
 | cons p r ih =>
  have:ren (rho bs N) (ren (fun i=>i+lim) p.2)=p.2:=X7 hl p.2;show (p.1,_)::_=p::r;simp only;rw [this];exact congrArg _ ih
theorem renM_sh {bs:List Nat} {N:Nat} (hl:bs.length<=lim) (E:List (ByteArray × SV)):Qt (rho bs N) (Qt (fun i=>i+lim) E)=E:=by
 induction E with
 | nil=>rfl
 | cons p r ih =>
  have:ren (rho bs N) (ren (fun i=>i+lim) p.2)=p.2:=X7 hl p.2;show (p.1,_)::_=p::r;simp only;rw [this];exact congrArg _ ih
theorem Uz {bs:List Nat} {N:Nat} (hl:bs.length<=lim):∀ x:SB,W4 (rho bs N) (shB x)=x
 | .cells l=>by have:=Qb (N:=N) hl l;simp only [shB,W4];exact congrArg _ this
 | .row e sz k l=>by have:=Qb (N:=N) hl l;simp only [shB,W4];exact congrArg _ this
 | .map es=>by simp only [shB,W4];rw [renM_sh hl]
 | .chan c k=>rfl
 | .loop st pd E n ps x y=>by simp only [shB,W4];rw [renE_sh hl]
 | .defd=>rfl
 | .iter m=>by simp only [shB,W4];rw [Ly hl]
 | .seen l t fr=>by have:=Qb (N:=N) hl l;simp only [shB,W4];exact congrArg (fun x=>SB.seen x t fr) this
section
variable {P:Program} {l:Option Nat} {n:Nat} {all:Array Oper} {w0 w w':World} {F:List Nat} {B B0:Nm} {N N0:Nat} {G:Nat->Option SB} {σ':St} {E El E':SE} {D:List SD} {a:Act} {o:Oper} {L:List Oper} {Q:Exit->Act->World->Prop}
theorem Gx.keep (h:Gx w0 F B N G w) (hb:Below w.heap.size w w'):Gx w0 F B N G w' :=
 ⟨h.low.trans (G:=[]) (Fr.of_below hb _) (by simp),h.new,fun i sb hi=>by
  obtain ⟨p,hp,hk,hF⟩:=h.own i sb hi;exact ⟨p,hp,by rw [hb.block _ (h.inw hi hp)];exact hk,hF⟩,h.apart⟩
theorem L8 (w:World) (B:Nm):Sx w [] B bare w :=
 ⟨Fr.refl _ _,Nat.le_refl _,fun i hi=>⟨fun h=>absurd h (Nat.not_lt.2 hi),rfl⟩,(fun i sb hi=>by rw [Si] at hi;cases hi),(fun i j x y p q hi=>by rw [Si] at hi;cases hi)⟩
theorem GL_pure {v:SV} (hw:wants E all o.guard=some true) (h:noD P E bare o=some v) (hp:putD n E o.dst v=some E') (k:GL P l n all w0 F B0 N0 Q L E' D N G):GL P l n all w0 F B0 N0 Q (o::L) E D N G:=by
 intro B w a hs hg ha;simp only [wpListIn,Y6 ha hw];refine ⟨fun _ _=>trivial,?_⟩;unfold noD at h;split at h
 ·rename_i σ' f hac
  cases h;rw [Oper.semAt_eq _ _ _ (W7 hac)];obtain ⟨x,w1,hr,hd,hs1⟩:=U7 (L8 w B) ha hac;have hgo:=k B w1 (a.put o.dst x) hs (hg.keep hs1.low.below) (W5 ha hd hp);rcases hr with hr | ⟨rfl,hr⟩
  ·rw [hr];exact hgo
  ·rw [hr];exact hgo
 ·cases h
theorem Gx.lay (h:Gx w0 F B N G w) {p:Nat × Nat} {sb:SB} (hb:Blk (upd B N p) p sb w.heap[p.1]?) (hF:w0.heap.size<=p.1) (hne:∀ i x q,G i=some x->B i=some q->q.1≠p.1):Gx w0 F (upd B N p) (N+1) (Vb G N sb) w:=by
 have hB:B N=none:=(h.new N (Nat.le_refl _)).1;have hP:=Pre.upd hB p;have hlt:∀ i x,G i=some x->i≠N:=fun i x hi e=>by have:=h.lt hi;omega
 refine ⟨h.low,fun i hi=>⟨?_,?_⟩,fun i x hi=>?_,fun i j x y q r hi hj hq hr e=>?_⟩
 ·unfold upd;rw [if_neg (by omega)];exact (h.new i (by omega)).1
 ·rw [Xm _ _ (by omega)];exact (h.new i (by omega)).2
 ·by_cases e:i=N
  ·subst e;rw [Uf] at hi;cases hi;exact ⟨p,X2 ..,hb,.inr hF⟩
  ·rw [Xm _ _ e] at hi;obtain ⟨q,hq,hk,hF'⟩:=h.own i x hi;exact ⟨q,hP i q hq,hk.mono hP,hF'⟩
 ·have key:∀ (i:Nat) (x:SB) (q:Nat × Nat),Vb G N sb i=some x->upd B N p i=some q->(i=N/\q=p)\/(i≠N/\G i=some x/\B i=some q):=by
   intro i x q hi hq;by_cases e:i=N
   ·subst e;rw [X2] at hq;cases hq;exact .inl ⟨J,J⟩
   ·rw [Xm _ _ e] at hi;unfold upd at hq;rw [if_neg e] at hq;exact .inr ⟨e,hi,hq⟩
  rcases key i x q hi hq with ⟨rfl,rfl⟩ | ⟨h1,h2,h3⟩<;>rcases key j y r hj hr with ⟨e1,rfl⟩ | ⟨k1,k2,k3⟩
  ·exact e1.symm
  ·exact absurd e.symm (hne j y r k2 k3)
  ·exact absurd e (hne i x q h2 h3)
  ·exact h.apart i j x y q r h2 k2 h3 k3 e
theorem GL_new {v:SV} {sb:SB} (hw:wants E all o.guard=some true) (h:alD P E bare N o=some (v,sb)) (hp:putD n E o.dst v=some E') (k:GL P l n all w0 F B0 N0 Q L E' D (N+1) (Vb G N sb)):GL P l n all w0 F B0 N0 Q (o::L) E D N G:=by
 intro B w a hs hg ha;simp only [wpListIn,Y6 ha hw];refine ⟨fun _ _=>trivial,?_⟩;unfold alD at h;split at h
 ·rename_i σ' sb' f hac
  cases h;rw [Oper.semAt_eq _ _ _ (W7 hac)];obtain ⟨x,w1,p,hr,hs1,hnew,hF,_⟩:=U7 (L8 w B) ha hac;have hB:B N=none:=(hg.new N (Nat.le_refl _)).1;obtain ⟨h1,h2⟩:=hnew N hB;have hF':w.heap.size<=p.1:=hF.elim (fun h=>by cases h) id;have hg1:=(hg.keep hs1.low.below).lay h1 (Nat.le_trans hg.low.size hF') (fun i y q hi hq e=>by have:=hg.inw hi hq;omega);rw [hr];exact k _ w1 _ (hs.trans ⟨Pre.upd hB p,Nat.le_succ _,fun i hi=>by unfold upd;rw [if_neg (by omega)]⟩) hg1 (W5 (ha.mono (Pre.upd hB p)) h2 hp)
 ·cases h
theorem G2 {b:Nat} {sb:SB} (hG:G b=some sb):Few [b] N G (one (shB sb)):=by
 refine ⟨J,by unfold lim;simp,by simp,fun i x hi=>?_,fun i g hi=>?_⟩
 ·rw [Xj] at hi;by_cases e:i=0
  ·subst e;rw [if_pos rfl] at hi;cases hi;exact ⟨b,J,by rw [Uz (by unfold lim;simp)];exact hG⟩
  ·rw [if_neg e] at hi;cases hi
 ·match i,hi with
  | 0,_=>exact ⟨shB sb,by rw [Xj];rfl⟩
theorem Fk {b:Nat} {sb:SB} (hg:Gx w0 F B N G w) (hb:b<N) (hn:σ'.n=1) (h0:σ'.get 0=some (shB sb)):after [b] N G σ'=Vb G b sb:=by
 funext g
 unfold after Vb;by_cases e:g=b
 ·subst e;rw [if_pos (by simp),if_pos rfl,show List.idxOf g [g]=0 by simp,h0];show some (W4 _ (shB sb))=_;rw [Uz (by unfold lim;simp)]
 ·rw [if_neg (by simp [e]),if_neg e];by_cases h:g<N
  ·rw [if_pos h]
  ·rw [if_neg h,hn,if_neg (by simp),(hg.new g (by omega)).2]
theorem Pa {b:Nat} {sb sb':SB} {f:Nat->SV} (hw:wants E all o.guard=some true) (hG:G b=some sb) (hE:V8 (rho [b] N) E El) (h:act P El (one (shB sb)) o=some (.val (σ',none,f))) (hn:σ'.n=1) (h0:σ'.get 0=some (shB sb')) (hp:putD n E o.dst (ren (rho [b] N) (f 0))=some E')
  (k:GL P l n all w0 F B0 N0 Q L E' D N (Vb G b sb')):GL P l n all w0 F B0 N0 Q (o::L) E D N G:=by
 intro B w a hs hg ha;refine Dy hw (G2 hG) hE h (v:=f 0) (σ':=σ') ?_ hp ?_ B w a hs hg ha
 ·show (bif Nat.ble 1 σ'.n then _ else _)=_;rw [hn];rfl
 ·rw [Fk hg (hg.lt hG) hn h0,hn];exact k
theorem Su {b:Nat} {sb:SB} (h:G b=some sb):Vb G b sb=G:=by
 funext g
 unfold Vb;by_cases e:g=b
 ·rw [if_pos e,e,h]
 ·rw [if_neg e]
theorem GL_load {b off t tx:Nat} {sb:SB} {v:SV} (hw:wants E all o.guard=some true) (ho:o.op=.load t (.tmp tx)) (hx:slook E tx=some (.ptr b off)) (hG:G b=some sb) (h:ldAt P (one (shB sb)) t (some (.ptr 0 off))=some (sh v)) (hp:putD n E o.dst v=some E')
  (k:GL P l n all w0 F B0 N0 Q L E' D N G):GL P l n all w0 F B0 N0 Q (o::L) E D N G:=by
 refine Pa (El:=[(tx,.ptr 0 off)]) (σ':=one (shB sb)) (f:=fun _=>sh v) (sb':=sb) hw hG ⟨by rw [hx];rfl,trivial⟩ ?_ rfl (by rw [Xj];rfl) (by rw [X7 (by unfold lim;simp)];exact hp) (by rw [Su hG];exact k);unfold act;rw [ho];show Ar.of ((ldAt P (one (shB sb)) t (slook [(tx,.ptr 0 off)] tx)).bind (same _))=_;rw [Z9,Nat.beq_refl];simp only [cond_true];rw [h];rfl
end
end S
namespace S
open Go Go.RowKit E
noncomputable def pair (x y:SB):St:=((St.mk 2 .nil).set 0 (some x)).set 1 (some y)
theorem W1 (x y:SB) (i:Nat):(pair x y).get i=if i=1 then some y else if i=0 then some x else none:=by
 unfold pair;rw [St.get_set _ (by unfold lim;omega),St.get_set _ (by unfold lim;omega)];rfl
section
variable {P:Program} {l:Option Nat} {n:Nat} {all:Array Oper} {w0 w w':World} {F:List Nat} {B B0:Nm} {N N0:Nat} {G:Nat->Option SB} {σ':St} {E El E':SE} {D:List SD} {a:Act} {o:Oper} {L:List Oper} {Q:Exit->Act->World->Prop}
theorem few2 {b c:Nat} {x y:SB} (hx:G b=some x) (hy:G c=some y) (hne:b≠c):Few [b,c] N G (pair (shB x) (shB y)):=by
 refine ⟨J,by unfold lim;simp,by simp [hne],fun i z hi=>?_,fun i g hi=>?_⟩
 ·rw [W1] at hi;by_cases e:i=1
  ·subst e;rw [if_pos rfl] at hi;cases hi;exact ⟨c,J,by rw [Uz (by unfold lim;simp)];exact hy⟩
  ·rw [if_neg e] at hi;by_cases e0:i=0
   ·subst e0;rw [if_pos rfl] at hi;cases hi;exact ⟨b,J,by rw [Uz (by unfold lim;simp)];exact hx⟩
   ·rw [if_neg e0] at hi;cases hi
 ·match i,hi with
  | 0,_=>exact ⟨shB x,by rw [W1];rfl⟩
  | 1,_=>exact ⟨shB y,by rw [W1];rfl⟩
def apG (G:Nat->Option SB) (b N:Nat) (x:SB):Nat->Option SB:=fun g=>if g=N then some x else if g=b then none else G g
theorem Ls (x:List SV):(shL x).length=x.length:=by
 unfold shL;induction x with
 | nil=>rfl
 | cons y r ih=>simp [X3,ih]
theorem Jr (x:List SV):∀ k,shL (x.take k)=(shL x).take k:=by
 unfold shL;induction x with
 | nil=>intro k;simp [X3]
 | cons y r ih=>intro k;cases k with
  | zero=>simp [X3]
  | succ k=>simp [X3,ih]
theorem Zah (x:List SV):∀ k,shL (x.drop k)=(shL x).drop k:=by
 unfold shL;induction x with
 | nil=>intro k;simp [X3]
 | cons y r ih=>intro k;cases k with
  | zero=>simp [X3]
  | succ k=>simp [X3,ih]
theorem shL_app (x y:List SV):shL (x++y)=shL x++shL y:=by
 unfold shL;induction x with
 | nil=>rfl
 | cons z r ih=>simp [X3,ih]
theorem sOne_sh (v:SV):sOne (sh v)=sOne v:=by cases v<;>rfl
theorem Zeu (x:List SV):(shL x).all sOne=x.all sOne:=by
 unfold shL;induction x with
 | nil=>rfl
 | cons y r ih=>simp only [X3,List.all_cons,ih];rw [show sOne (ren (fun i=>i+lim) y)=sOne y from sOne_sh y]
theorem Sh (x:List SV) (o k:Nat):cutAt (shL x) o k=shL (cutAt x o k):=by unfold cutAt;rw [Jr,Zah]
theorem GL_app {t e x y b b' ln k k' o' m j:Nat} {i:TypeInfo} {c c':List SV} (hw:wants E all o.guard=some true) (ho:o.op=.call ⟨.builtin .append,#[.tmp x,.tmp y],#[t,t]⟩) (ht:P.underlying t=some (.slice e)) (hi:P.info? e=some i) (hz:zeroOk i=true)
  (hx:slook E x=some (.sl b 0 ln 0)) (hy:slook E y=some (.sl b' o' m j)) (hxy:x≠y) (hb:G b=some (.row e i.size k c)) (hb':G b'=some (.row e i.size k' c')) (hne:b≠b') (hl:ln<=k) (hlen:(cutAt c' o' (m*i.size)).length=m*i.size) (hone:(cutAt c' o' (m*i.size)).all sOne=true)
  (hbd:(ln+m)*(i.bytes+1)<=1000000) (hm:0<m) (hp:putD n E o.dst (.sl N 0 (ln+m) 0)=some E') (kk:GL P l n all w0 F B0 N0 Q L E' D (N+1) (apG G b N (.row e i.size (ln+m) (c.take (ln*i.size)++cutAt c' o' (m*i.size))))):GL P l n all w0 F B0 N0 Q (o::L) E D N G:=by
 intro B w a hs hg ha;have hbN:=hg.lt hb;have hbN':=hg.lt hb'
 have hact:act P [(x,.sl 0 0 ln 0),(y,.sl 1 o' m j)] (pair (shB (.row e i.size k c)) (shB (.row e i.size k' c'))) o=some (.val ((pair (shB (.row e i.size k c)) (shB (.row e i.size k' c'))).set 0 none,some (.row e i.size (ln+m) ((shL c).take (ln*i.size)++cutAt (shL c') o' (m*i.size))),fun r=>.sl r 0 (ln+m) 0)):=by
  unfold act;rw [ho];simp only [acCall];have s1:sev [(x,Zk 0 0 ln 0),(y,Zk 1 o' m j)] (.tmp x)=some (.sl 0 0 ln 0):=by simp only [sev];rw [Z9,Nat.beq_refl];rfl
  have s2:sev [(x,Zk 0 0 ln 0),(y,Zk 1 o' m j)] (.tmp y)=some (.sl 1 o' m j):=by simp only [sev];rw [Z9,W3 (fun e=>hxy e.symm)];simp only [cond_false];rw [Z9,Nat.beq_refl];rfl
  have g0:rowOf (pair (shB (.row e i.size k c)) (shB (.row e i.size k' c'))) 0=some (e,i.size,k,shL c):=by unfold rowOf;rw [W1];rfl
  have g1:((pair (shB (.row e i.size k c)) (shB (.row e i.size k' c'))).get 1).bind Wa=some (shL c'):=by rw [W1];rfl
  have hk:Nat.ble ln k=true:=Nat.ble_eq_true_of_le hl;have hbd':Nat.ble ((ln+m)*(i.bytes+1)) 1000000=true:=Nat.ble_eq_true_of_le hbd;have hm':Nat.blt 0 m=true:=Nat.ble_eq_true_of_le hm;have hlen':(cutAt (shL c') o' (m*i.size)).length=m*i.size:=by rw [Sh,Ls];exact hlen
  have hone':(cutAt (shL c') o' (m*i.size)).all sOne=true:=by rw [Sh,Zeu];exact hone
  have ea:exAppend P (pair (shB (.row e i.size k c)) (shB (.row e i.size k' c'))) t t (.sl 0 0 ln 0) (.sl 1 o' m j)=some ((pair (shB (.row e i.size k c)) (shB (.row e i.size k' c'))).set 0 none,some (.row e i.size (ln+m) ((shL c).take (ln*i.size)++cutAt (shL c') o' (m*i.size))),fun r=>.sl r 0 (ln+m) 0):=by
   unfold exAppend;rw [ht];simp only;rw [hi];simp only [hz,cond_true,apS,g0,Nat.beq_refl,hk,Bool.and_self,apTo,g1,apNew,hlen',hone',hbd',hm']
  simp only [acBuiltin,s1,s2,ea,Ar.of]
 refine Dy hw (few2 hb hb' hne) (El:=[(x,.sl 0 0 ln 0),(y,.sl 1 o' m j)]) ⟨by rw [hx];rfl,by rw [hy];rfl,trivial⟩ hact (v:=.sl 2 0 (ln+m) 0) (σ':=_) rfl hp ?_ B w a hs hg ha
 have e2:after [b,b'] N G (((pair (shB (.row e i.size k c)) (shB (.row e i.size k' c'))).set 0 none).ext 1 |>.set 2 (some (.row e i.size (ln+m) ((shL c).take (ln*i.size)++cutAt (shL c') o' (m*i.size)))))=apG G b N (.row e i.size (ln+m) (c.take (ln*i.size)++cutAt c' o' (m*i.size))):=by
  have gg:∀ q,((((pair (shB (.row e i.size k c)) (shB (.row e i.size k' c'))).set 0 none).ext 1).set 2 (some (Zw e i.size (ln+m) ((shL c).take (ln*i.size)++cutAt (shL c') o' (m*i.size))))).get q=if q=2 then some (Zw e i.size (ln+m) ((shL c).take (ln*i.size)++cutAt (shL c') o' (m*i.size))) else if q=0 then none else (pair (shB (.row e i.size k c)) (shB (.row e i.size k' c'))).get q:=by
   intro q;rw [St.get_set _ (by unfold lim;omega),St.get_ext,St.get_set _ (by unfold lim;omega)]
  have hn3:((((pair (shB (.row e i.size k c)) (shB (.row e i.size k' c'))).set 0 none).ext 1).set 2 (some (Zw e i.size (ln+m) ((shL c).take (ln*i.size)++cutAt (shL c') o' (m*i.size))))).n=3:=rfl;funext g
  unfold after apG;rw [hn3];by_cases e1:g=b
  ·subst e1;rw [if_pos (by simp),show List.idxOf g [g,b']=0 by simp,gg,if_neg (by omega),if_pos rfl,if_neg (by omega),if_pos rfl];rfl
  ·by_cases e2:g=b'
   ·subst e2;rw [if_pos (by simp),show List.idxOf g [b,g]=1 by simp [List.idxOf_cons,beq_false_of_ne hne],gg,if_neg (by omega),if_neg (by omega),W1,if_pos rfl,if_neg (by omega),if_neg e1,hb'];show some (W4 _ (shB _))=_;rw [Uz (by unfold lim;simp)]
   ·rw [if_neg (by simp [e1,e2])];by_cases h:g<N
    ·rw [if_pos h,if_neg (by omega),if_neg e1]
    ·rw [if_neg h];by_cases e3:g=N
     ·subst e3;rw [if_pos (show [b,b'].length+(g - g)<3 by simp),show [b,b'].length+(g - g)=2 by simp,gg,if_pos rfl,if_pos rfl];have:=Uz (bs:=[b,b']) (N:=g) (by unfold lim;simp) (.row e i.size (ln+m) (c.take (ln*i.size)++cutAt c' o' (m*i.size)));rw [<- this];simp only [Option.map_some,shB,W4]
      rw [show X3 (fun i=>i+lim) (c.take (ln*i.size)++cutAt c' o' (m*i.size))=(shL c).take (ln*i.size)++cutAt (shL c') o' (m*i.size) by
       show shL _=_;rw [shL_app,Jr,Sh]]
     ·rw [if_neg (show ¬ [b,b'].length+(g - N)<3 by simp;omega),if_neg e3,if_neg e1,(hg.new g (by omega)).2]
 have:=kk;rw [<- e2] at this;exact this
noncomputable def apInfo (P:Program) (e:Nat):Option (Nat × Nat):=match P.info? e with
 | some i=>bif zeroOk i then some (i.size,i.bytes) else none
 | none=>none
noncomputable def slOf (P:Program) (t:Nat):Option Nat:=match P.underlying t with
 | some (.slice e)=>some e
 | _=>none
theorem GL_apd {t e sz by_ x y b b' ln k k' o' m j:Nat} {c c':List SV} (hq:apInfo P e=some (sz,by_)) (ht:slOf P t=some e) (hw:wants E all o.guard=some true) (ho:o.op=.call ⟨.builtin .append,#[.tmp x,.tmp y],#[t,t]⟩)
  (hx:slook E x=some (.sl b 0 ln 0)) (hy:slook E y=some (.sl b' o' m j)) (hxy:Nat.beq x y=false) (hb:G b=some (.row e sz k c)) (hb':G b'=some (.row e sz k' c')) (hne:b≠b') (hl:ln<=k) (hlen:(cutAt c' o' (m*sz)).length=m*sz) (hone:(cutAt c' o' (m*sz)).all sOne=true)
  (hbd:(ln+m)*(by_+1)<=1000000) (hm:0<m) (hp:putD n E o.dst (.sl N 0 (ln+m) 0)=some E') (kk:GL P l n all w0 F B0 N0 Q L E' D (N+1) (apG G b N (.row e sz (ln+m) (c.take (ln*sz)++cutAt c' o' (m*sz))))):GL P l n all w0 F B0 N0 Q (o::L) E D N G:=by
 unfold apInfo at hq;split at hq
 ·rename_i i hi
  cases hz:zeroOk i with
  | false=>rw [hz] at hq;cases hq
  | true =>
   rw [hz] at hq;cases hq;unfold slOf at ht;split at ht
   ·rename_i e' hu
    cases ht;exact GL_app hw ho hu hi hz hx hy (fun e=>by rw [e,Nat.beq_refl] at hxy;cases hxy) hb hb' hne hl hlen hone hbd hm hp kk
   ·cases ht
 ·cases hq
theorem Ds {g b N:Nat} {x:SB} (h1:g≠N) (h2:g≠b):apG G b N x g=G g:=by unfold apG;rw [if_neg h1,if_neg h2]
end
end S
namespace S
open Go Go.RowKit E
theorem U0 {α:Type}:∀ (l:List α) (i:Nat),nth l i=l[i]?
 | [],i=>by rw [En];simp
 | x::r,0=>by rw [Qd];rfl
 | x::r,i+1=>by rw [Qd];show nth r i=_;rw [U0 r i];simp
theorem Lt (x:List SV):∀ i:Nat,(shL x)[i]?=(x[i]?).map sh:=by
 unfold shL;induction x with
 | nil=>intro i;simp [X3]
 | cons y r ih=>intro i;cases i with
  | zero=>rfl
  | succ i=>simpa [X3] using ih i
theorem Zck {p q:Nat} (h1:q<=p) (h2:p<4611686018427387904):Ba .i64 (.ofNat p) (.ofNat q)=.ofNat (p - q):=by
 show (bif Nat.ble q p&&Nat.blt p 128 then Int.ofNat (Nat.sub p q) else IntKind.i64.wrap (Int.ofNat p - Int.ofNat q))=_;cases h:Nat.ble q p&&Nat.blt p 128 with
 | true=>rfl
 | false =>
  show IntKind.i64.wrap ((p:Int) - (q:Int))=((p - q:Nat):Int);rw [Vz _ (by omega)];omega
theorem Zco {p q:Nat} (h2:p+q<4611686018427387904):Bc .i64 (.ofNat p) (.ofNat q)=.ofNat (p+q):=by
 show (bif Nat.blt (Nat.add p q) 128 then Int.ofNat (Nat.add p q) else IntKind.i64.wrap (Int.ofNat p+Int.ofNat q))=_;cases h:Nat.blt (Nat.add p q) 128 with
 | true=>rfl
 | false =>
  show IntKind.i64.wrap ((p:Int)+(q:Int))=((p+q:Nat):Int);rw [Vz _ (by omega)];omega
section
variable {P:Program} {l:Option Nat} {n:Nat} {all:Array Oper} {w0 w w':World} {F:List Nat} {B B0:Nm} {N N0:Nat} {G:Nat->Option SB} {σ':St} {E El E':SE} {D:List SD} {a:Act} {o:Oper} {L:List Oper} {Q:Exit->Act->World->Prop}
theorem Qw {t t':Nat} {x y:Operand} {p q:Nat} (ho:o.op=.binOp .sub t x y t') (hx:sev E x=some (Zn p)) (hy:sev E y=some (Zn q)) (h1:q<=p) (h2:p<4611686018427387904):noD P E bare o=some (Zn (p - q)):=by
 unfold noD act;rw [ho];simp only [hx,hy,exBin,Vk,Zck h1 h2,same,Ar.of];rfl
theorem Xr {t t':Nat} {x y:Operand} {p q:Nat} (ho:o.op=.binOp .add t x y t') (hx:sev E x=some (Zn p)) (hy:sev E y=some (Zn q)) (h2:p+q<4611686018427387904):noD P E bare o=some (Zn (p+q)):=by
 unfold noD act;rw [ho];simp only [hx,hy,exBin,Vk,Zco h2,same,Ar.of];rfl
theorem Xe {t sz b k ln j i:Nat} {x y:Operand} (ho:o.op=.indexAddr t x y) (hx:sev E x=some (.sl b k ln j)) (hy:natOf (sev E y)=some i) (hs:elemSz P t=some sz) (hlt:i<ln):noD P E bare o=some (.ptr b (k+i*sz)):=by
 unfold noD act;rw [ho];have:Nat.blt i ln=true:=Nat.ble_eq_true_of_le hlt;simp only [hx,hy,exIdxA,hs,Option.bind_some,this,cond_true,same,Ar.of]
theorem Xd {t e sz k off:Nat} {c:List SV} {v:SV} (ht:tAgg P t=some false) (h:c[off]?=some v):ldAt P (one (shB (.row e sz k c))) t (some (.ptr 0 off))=some (sh v):=by
 have g:((one (shB (.row e sz k c))).get 0).bind Wa=some (shL c):=by rw [Xj];rfl
 simp only [ldAt,g,ldCells,ht];rw [U0,Lt,h];rfl
theorem Ew {t off t2:Nat} {fr:Nat × Nat} {c:List SV} {v:SV} (ht:tAgg P t=some false) (h:c[off]?=some v):ldAt P (one (shB (.seen c t2 fr))) t (some (.ptr 0 off))=some (sh v):=by
 have g:((one (shB (.seen c t2 fr))).get 0).bind Wa=some (shL c):=by rw [Xj];rfl
 simp only [ldAt,g,ldCells,ht];rw [U0,Lt,h];rfl
theorem GL_from {t e sz x tl b o' ln j k m:Nat} {kd:IntKind} {c:List SV} (hw:wants E all o.guard=some true) (ho:o.op=.slice t (.tmp x) (some (.tmp tl)) none none) (ht:slOf P t=some e) (hs:szIs P e sz=true) (hx:slook E x=some (.sl b o' ln j)) (hl:slook E tl=some (.v (.int kd (.ofNat m)))) (hxl:Nat.beq tl x=false)
  (hb:G b=some (.row e sz k c)) (h1:m<=ln) (h2:j+ln<=k) (h3:m=0\/j+m<k) (hp:putD n E o.dst (.sl b (o'+m*sz) (ln - m) (j+m))=some E') (kk:GL P l n all w0 F B0 N0 Q L E' D N G):GL P l n all w0 F B0 N0 Q (o::L) E D N G:=by
 refine Pa (El:=[(x,.sl 0 o' ln j),(tl,.v (.int kd (.ofNat m)))]) (σ':=one (shB (.row e sz k c))) (f:=fun _=>.sl 0 (o'+m*sz) (ln - m) (j+m)) (sb':=.row e sz k c) hw hb ⟨by rw [hx];rfl,by rw [hl];rfl,trivial⟩ ?_ rfl (by rw [Xj];rfl) hp (by rw [Su hb];exact kk);unfold act;rw [ho];have s1:sev [(x,Zk 0 o' ln j),(tl,SV.v (.int kd (.ofNat m)))] (.tmp x)=some (.sl 0 o' ln j):=by simp only [sev];rw [Z9,Nat.beq_refl];rfl
 have s2:sev [(x,Zk 0 o' ln j),(tl,SV.v (.int kd (.ofNat m)))] (.tmp tl)=some (.v (.int kd (.ofNat m))):=by simp only [sev];rw [Z9,hxl];simp only [cond_false];rw [Z9,Nat.beq_refl];rfl
 have g0:rowOf (one (shB (.row e sz k c))) 0=some (e,sz,k,shL c):=by unfold rowOf;rw [Xj];rfl
 have q1:Nat.ble m ln=true:=Nat.ble_eq_true_of_le h1;have q2:Nat.ble (j+ln) k=true:=Nat.ble_eq_true_of_le h2
 have q3:(Nat.beq m 0 || Nat.blt (j+m) k)=true:=by
  rcases h3 with rfl | h3
  ·rfl
  ·rw [show Nat.blt (j+m) k=true from Nat.ble_eq_true_of_le h3,Bool.or_true]
 unfold slOf at ht;split at ht
 ·rename_i e' hu
  cases ht;simp only [s1,s2,exSlice,bnd,natOf,exSliceL,hu,g0,Nat.beq_refl,hs,q1,q2,q3,Bool.and_self,cond_true,same,Ar.of]
 ·cases ht
theorem GL_upto {t e sz x tl b o' ln j k m:Nat} {kd:IntKind} {c:List SV} (hw:wants E all o.guard=some true) (ho:o.op=.slice t (.tmp x) none (some (.tmp tl)) none) (ht:slOf P t=some e) (hs:szIs P e sz=true) (hx:slook E x=some (.sl b o' ln j)) (hl:slook E tl=some (.v (.int kd (.ofNat m)))) (hxl:Nat.beq tl x=false)
  (hb:G b=some (.row e sz k c)) (h2:j+m<=k) (hp:putD n E o.dst (.sl b o' m j)=some E') (kk:GL P l n all w0 F B0 N0 Q L E' D N G):GL P l n all w0 F B0 N0 Q (o::L) E D N G:=by
 refine Pa (El:=[(x,.sl 0 o' ln j),(tl,.v (.int kd (.ofNat m)))]) (σ':=one (shB (.row e sz k c))) (f:=fun _=>.sl 0 (o'+0*sz) (m - 0) (j+0)) (sb':=.row e sz k c) hw hb ⟨by rw [hx];rfl,by rw [hl];rfl,trivial⟩ ?_ rfl (by rw [Xj];rfl) (by simpa [ren,rho] using hp) (by rw [Su hb];exact kk);unfold act;rw [ho];have s1:sev [(x,Zk 0 o' ln j),(tl,SV.v (.int kd (.ofNat m)))] (.tmp x)=some (.sl 0 o' ln j):=by simp only [sev];rw [Z9,Nat.beq_refl];rfl
 have s2:sev [(x,Zk 0 o' ln j),(tl,SV.v (.int kd (.ofNat m)))] (.tmp tl)=some (.v (.int kd (.ofNat m))):=by simp only [sev];rw [Z9,hxl];simp only [cond_false];rw [Z9,Nat.beq_refl];rfl
 have g0:rowOf (one (shB (.row e sz k c))) 0=some (e,sz,k,shL c):=by unfold rowOf;rw [Xj];rfl
 have q1:Nat.ble 0 m=true:=Nat.ble_eq_true_of_le (Nat.zero_le _);have q2:Nat.ble (j+m) k=true:=Nat.ble_eq_true_of_le h2;have q3:(Nat.beq 0 0 || Nat.blt (j+0) k)=true:=rfl;unfold slOf at ht;split at ht
 ·rename_i e' hu
  cases ht;simp only [s1,s2,exSlice,bnd,natOf,exSliceL,hu,g0,Nat.beq_refl,hs,q1,q2,q3,Bool.and_self,cond_true,same,Ar.of];rfl
 ·cases ht
end
end S
end Go.Proofs.YtpofmnfkdkmieaaGreat
