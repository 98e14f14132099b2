/- What is proved here: drawn regions that leave memory, calls,  -/
import Derived.Test.YtpofmnfkdkmieaaGreatQ13
import Derived.Test.YtpofmnfkdkmieaaGreatQ08
import Derived.Conc.LoneCalls
import Derived.Test.YtpofmnfkdkmieaaGreatQ01
import Derived.Recover
set_option linter.unusedVariables false
set_option linter.unusedSimpArgs false
namespace Go.Proofs.YtpofmnfkdkmieaaGreat
namespace S
open Go Go.RowKit E
noncomputable def quV (P:Program) (H:Ch) (all:Array Oper) (Er:SE) (o:Oper) (is:List Nat):Option (SV × List (Nat × Nat) × List Nat):=match wants Er all o.guard with
 | some false=>some (.tup [],[],is)
 | some true=>(match o.op with
  | .load t (.tmp tx)=>(match slook Er tx,is with
   | some (.ptr b off),i::is'=>(match nth H i with
    | some (b',sb)=>(match Wa sb with
     | some c=>(match ldCells P t off c with
      | some v=>some (v,[(b,b')],is')
      | none=>none)
     | none=>none)
    | none=>none)
   | _,_=>none)
  | _=>(match noD P Er bare o with
   | some v=>some (v,[],is)
   | none=>none))
 | none=>none
noncomputable def quR (P:Program) (H:Ch) (all:Array Oper):List Oper->SE->List Nat->Option (List SV × List (Nat × Nat))
 | [],_,_=>some ([],[])
 | o::r,E,is=>(match quV P H all (erOf all E o) o is with
  | some (v,l,is')=>(match quR P H all r (Ve o v E) is' with
   | some (vs,L)=>some (v::vs,l++L)
   | none=>none)
  | none=>none)
section
variable {P:Program} {l:Option Nat} {n:Nat} {all:Array Oper} {w0 w w':World} {F:List Nat} {B B0:Nm} {N N0:Nat} {T:List Nat} {G0 G:Nat->Option SB} {A U V H H2:Ch} {E El E' Er:SE} {D:List SD} {a:Act} {o:Oper} {L:List Oper} {Q:Exit->Act->World->Prop} {x y:Code} {e:Exit}
theorem Zbd {is is':List Nat} {v:SV} {ls:List (Nat × Nat)} (h:quV P H all Er o is=some (v,ls,is')) (hL:∀ p ∈ ls,p.1=p.2):∀ G,Hs H G->Uv P n N G all o ⟨Er,v⟩:=by
 intro G hG;unfold quV at h;split at h
 ·rename_i hw;cases h;exact Zbb hw
 ·rename_i hw
  split at h
  ·rename_i t tx ho
   split at h
   ·rename_i b off i is'' hx
    split at h
    ·rename_i b' sb hn
     split at h
     ·rename_i c hc
      split at h
      ·rename_i u hu
       cases h;have e:b=b':=hL _ List.mem_cons_self;subst e;rw [U0] at hn;exact Z3 hw ho hx (hG.get hn) (Zci hc hu)
      ·cases h
     ·cases h
    ·cases h
   ·cases h
  ·split at h
   ·rename_i u hu;cases h;exact Yl hw hu
   ·cases h
 ·cases h
theorem Zbe {L0:List Oper}:∀ {R:List Oper} {E:SE} {is:List Nat} {vs:List SV} {ls:List (Nat × Nat)} {i:Nat},quR P H L0.toArray R E is=some (vs,ls)->(∀ p ∈ ls,p.1=p.2)->QW P l n D L0 [] [(N,H)] i R vs E
 | [],E,is,vs,ls,i,h,hL=>by cases h;trivial
 | o::r,E,is,vs,ls,i,h,hL=>by
  unfold quR at h;split at h
  ·rename_i v l1 is' hv
   split at h
   ·rename_i vs' L' hr
    cases h;exact ⟨.inl ⟨J,⟨fun _ G hG=>Zbd hv (fun p hp=>hL p (List.mem_append_left _ hp)) G hG,trivial⟩⟩,Zbe hr (fun p hp=>hL p (List.mem_append_right _ hp))⟩
   ·cases h
  ·cases h
theorem Q2:∀ {L:List Oper} {vs:List SV} {E:SE} {i j:Nat},(∀ o ∈ L,o.dst≠some j)->slook (Wb L vs E i) j=slook E j
 | [],vs,E,i,j,_=>by unfold Wb;rfl
 | o::r,[],E,i,j,_=>by cases i<;>rfl
 | o::r,v::vs,E,0,j,_=>rfl
 | o::r,v::vs,E,i+1,j,h=>by
  show slook (Wb r vs (Ve o v E) i) j=_;rw [Q2 (fun o ho=>h o (List.mem_cons_of_mem _ ho))];unfold Ve;cases hd:o.dst with
  | none=>rfl
  | some d =>
   simp only;rw [Z9];cases hb:Nat.beq j d with
   | true=>exact absurd (by rw [hd,Nat.eq_of_beq_eq_true hb]) (h o List.mem_cons_self)
   | false=>rfl
noncomputable def outQ (r:Option (List SV × List (Nat × Nat))) (L:List Oper) (E:SE) (sl:List Nat):Option (List (Option SV) × List Nat):=r.map fun s=>(sl.map (slook (Wb L s.1 E L.length)),s.2.map (·.1))
noncomputable def sndQ (r:Option (List SV × List (Nat × Nat))):List Nat:=match r with
 | some s=>s.2.map (·.2)
 | none=>[]
theorem HC_dq {id:Nat} (hm:P.follows .mixedOrders=true) (is:List Nat) (E2:SE) (ds:List Nat) (k:HQ n w0 F B0 N0 T G0 Q .normal (E2++Qj E ds) D N H) (h1:Mx L=true:=by kernel_rfl) (h2:Q5 L=true:=by kernel_rfl) (h3:ckRd L.toArray L=true:=by kernel_rfl) (h4:ckN n L=true:=by kernel_rfl)
  (h:outQ (quR P H L.toArray L E is) L E (E2.map (·.1))=some (E2.map (fun p=>some p.2),sndQ (quR P H L.toArray L E is)):=by kernel_rfl) (hw:ckW (Qj E ds) L (E2.map (·.1))=true:=by kernel_rfl):HC P l n w0 F B0 N0 T G0 Q (.region id L.toArray true) E D N H:=by
 cases hr:quR P H L.toArray L E is with
 | none=>rw [hr] at h;cases h
 | some s =>
  obtain ⟨vs,ls⟩:=s;rw [hr] at h;simp only [outQ,sndQ,Option.map_some,Option.some.injEq,Prod.mk.injEq] at h;have hq:=Zbe (l:=l) (n:=n) (D:=D) (N:=N) (i:=0) hr (Lu h.2);have hlen:=(Fp hq).1;exact Hg vs [] [(N,H)] hm h1 h2 h3 h4 J J hq J (Zex (Ol h.1 (fun j hj=>Q2 hj) hw) (Z7 k))
def Pg:Ch->List Nat->Ch
 | H,[]=>H
 | H,i::r=>Pg (H.eraseIdx i) r
theorem Oh {i:Nat}:∀ {r:List Nat} {H:Ch},(∀ j ∈ r,i>j)->Yd (H.eraseIdx i) r=Yd H r
 | [],H,_=>rfl
 | j::r,H,h=>by
  have ih:=Oh (r:=r) (H:=H) (fun q hq=>h q (List.mem_cons_of_mem _ hq));unfold Yd at ih ⊢;rw [List.filterMap_cons,List.filterMap_cons,List.getElem?_eraseIdx_of_lt (h j List.mem_cons_self),ih]
theorem O3:∀ {H:Ch} {i:Nat} {p:Nat × SB},H[i]?=some p->H.Perm (p::H.eraseIdx i)
 | [],i,p,h=>by cases h
 | q::r,0,p,h=>by cases h;exact List.Perm.refl _
 | q::r,i+1,p,h=>((O3 (H:=r) (i:=i) (by simpa using h)).cons q).trans (List.Perm.swap _ _ _)
theorem Qc:∀ (ds:List Nat) (H:Ch),ds.Pairwise (·>·)->H.Perm (Yd H ds++Pg H ds)
 | [],H,_=>List.Perm.refl _
 | i::r,H,hd=>by
  rw [List.pairwise_cons] at hd;have ih:=Qc r (H.eraseIdx i) hd.2;rw [Oh hd.1] at ih;show H.Perm (Yd H (i::r)++Pg (H.eraseIdx i) r);unfold Yd;rw [List.filterMap_cons];cases hi:H[i]? with
  | none =>
   have:H.eraseIdx i=H:=List.eraseIdx_of_length_le (List.getElem?_eq_none_iff.1 hi);rw [this] at ih;simp only;rw [this];exact ih
  | some p =>
   exact (O3 hi).trans (ih.cons _)
theorem Xz {is ds:List Nat} (h:ds.Perm is):(Yd H ds).Perm (Yd H is):=h.filterMap _
theorem Z0 {f:FuncId} {xx:Operand} {xs:Array Operand} {ts:Array TypeId} {u c m:List SV} {v:SV} {N1:Nat} {H1:Ch} (is ds:List Nat) (hng:Vh P) (hw:wants E all o.guard=some true) (ho:o.op=.call ⟨.value xx,xs,ts⟩) (hx:sev E xx=some (.fn f u c)) (hxs:sargs E xs.toList=some m)
  (hF:HF P f (u++m++c) N (Yd H is) (fun a b c=>a=v/\b=N1/\c=H1)) (hp:putD n E o.dst v=some E') (k:HL P l n all w0 F B0 N0 T G0 Q L E' D N1 (H1++Pg H ds)) (hd:ds.Perm is/\ds.Pairwise (·>·)/\is.Nodup:=by decide):HL P l n all w0 F B0 N0 T G0 Q (o::L) E D N H:=fun G hG B w a hs hg ha=>by
 have hfr:∀ i,N<=i->G i=none:=fun i hi=>(hg.new i hi).2;have hpm:H.Perm (Yd H is++Pg H ds):=(Qc ds H hd.2.1).trans ((Xz hd.1).append_right _);have hnd:((Yd H is++Pg H ds).map (·.1)).Nodup:=(hpm.map _).nodup_iff.1 hG.hs.nd;refine Re hng hw ho hx hxs (hF.2 G (hG.hs.pick hd.2.2) hfr) ?_ B w a hs hg ha;rintro v' N' G' ⟨H',⟨rfl,rfl,rfl⟩,hc⟩;exact ⟨E',hp,k G' (Hx.callS hG hs.le hfr (fun p hp=>Yq hp) (fun p hp=>hpm.mem_iff.2 (List.mem_append_right _ hp)) hnd hc)⟩
theorem Yn {f:FuncId} {xx:Operand} {xs:Array Operand} {ts:Array TypeId} {u c m:List SV} {Rp:SV->Nat->Ch->Prop} (is ds:List Nat) (hng:Vh P) (hw:wants E all o.guard=some true) (ho:o.op=.call ⟨.value xx,xs,ts⟩) (hx:sev E xx=some (.fn f u c)) (hxs:sargs E xs.toList=some m)
  (hF:HF P f (u++m++c) N (Yd H is) Rp) (k:∀ v N' H',Rp v N' H'->∃ E',putD n E o.dst v=some E'/\HL P l n all w0 F B0 N0 T G0 Q L E' D N' (H'++Pg H ds)) (hd:ds.Perm is/\ds.Pairwise (·>·)/\is.Nodup:=by decide):HL P l n all w0 F B0 N0 T G0 Q (o::L) E D N H:=fun G hG B w a hs hg ha=>by
 have hfr:∀ i,N<=i->G i=none:=fun i hi=>(hg.new i hi).2;have hpm:H.Perm (Yd H is++Pg H ds):=(Qc ds H hd.2.1).trans ((Xz hd.1).append_right _);have hnd:((Yd H is++Pg H ds).map (·.1)).Nodup:=(hpm.map _).nodup_iff.1 hG.hs.nd;refine Re hng hw ho hx hxs (hF.2 G (hG.hs.pick hd.2.2) hfr) ?_ B w a hs hg ha;rintro v' N' G' ⟨H',hR,hc⟩;obtain ⟨E',hp,kk⟩:=k v' N' H' hR;exact ⟨E',hp,kk G' (Hx.callS hG hs.le hfr (fun p hp=>Yq hp) (fun p hp=>hpm.mem_iff.2 (List.mem_append_right _ hp)) hnd hc)⟩
def chgB:Ch->List (Nat × SB)->Ch
 | H,[]=>H
 | H,p::r=>chgB (setB H p.1 p.2) r
theorem Zy {ops:List Oper} (k:Nat) (is:List Nat) (E2:SE) (ds:List Nat) (N2:Nat) (new:Ch) (chg:List (Nat × SB)) (kk:HL P l n all w0 F B0 N0 T G0 Q (ops.drop k) (E2++Qj E ds) D N2 (new++chgB H chg))
  (h:outR (runR P n all (ops.take k) ⟨E,N,H,[],is⟩) (E2.map (·.1))=some (E2.map (fun p=>some p.2),N2,new++chgB H chg,sndR (runR P n all (ops.take k) ⟨E,N,H,[],is⟩)):=by kernel_rfl) (hw:ckW (Qj E ds) (ops.take k) (E2.map (·.1))=true:=by kernel_rfl):HL P l n all w0 F B0 N0 T G0 Q ops E D N H:=HL_rn k is E2 ds N2 _ kk h hw
def Efs (P:Program) (l:Option Nat) (n:Nat) (D:List SD) (L:List Oper) (vs:List SV) (E:SE):List Nat->Nat × Ch->Phs->Prop
 | [],_,_=>True
 | e::es,p,q::r=>(match L[e]?,vs[e]? with
  | some o,some v=>HE P l n L.toArray D o (erOf L.toArray (Wb L vs E e) o) v p.1 p.2 q.1 q.2
  | _,_=>False)/\Efs P l n D L vs E es q r
 | _::_,_,[]=>False
def Gvs (P:Program) (n:Nat) (L:List Oper) (vs:List SV) (E:SE) (ef:List Nat) (phs:Phs):List Nat->Prop
 | []=>True
 | g::r=>(match L[g]?,vs[g]? with
  | some o,some v=>QEs P n L.toArray o (erOf L.toArray (Wb L vs E g) o) v (Nn L ef g o) 0 phs
  | _,_=>False)/\Gvs P n L vs E ef phs r
noncomputable def dePh (P:Program) (all:Array Oper) (Er:SE) (o:Oper) (v:SV) (ok:Nat->Bool):Nat->Phs->List Nat->Option (List (SV × SV) × List (Nat × Nat) × List Nat)
 | _,[],is=>some ([],[],is)
 | k,p::r,is=>(match ok k with
  | false=>dePh P all Er o v ok (k+1) r is
  | true=>(match quV P p.2 all Er o is with
   | some (v',ls,is')=>(match dePh P all Er o v ok (k+1) r is' with
    | some (ps,ls',is2)=>some ((v',v)::ps,ls++ls',is2)
    | none=>none)
   | none=>none))
noncomputable def deQ (P:Program) (L:List Oper) (ef gs:List Nat) (phs:Phs):Nat->List Oper->List SV->SE->List Nat->Option (List (SV × SV) × List (Nat × Nat))
 | _,[],[],_,_=>some ([],[])
 | i,o::r,v::vs,E,is=>(match (match V7 i ef 0 with
   | some _=>some ([],[],is)
   | none=>(match V7 i gs 0 with
    | some _=>some ([],[],is)
    | none=>dePh P L.toArray (erOf L.toArray E o) o v (Nn L ef i o) 0 phs is)) with
  | some (ps,ls,is')=>(match deQ P L ef gs phs (i+1) r vs (Ve o v E) is' with
   | some (ps',ls')=>some (ps++ps',ls++ls')
   | none=>none)
  | none=>none)
 | _,_,_,_,_=>none
noncomputable def outD (r:Option (List (SV × SV) × List (Nat × Nat))):Option (List SV × List Nat):=r.map fun s=>(s.1.map (·.1),s.2.map (·.1))
noncomputable def sndD (r:Option (List (SV × SV) × List (Nat × Nat))):List SV × List Nat:=match r with
 | some s=>(s.1.map (·.2),s.2.map (·.2))
 | none=>([],[])
theorem Zap:∀ {L:List (SV × SV)},L.map (·.1)=L.map (·.2)->∀ p ∈ L,p.1=p.2
 | [],_,p,hp=>by cases hp
 | q::r,h,p,hp=>by
  simp only [List.map_cons,List.cons.injEq] at h;rcases List.mem_cons.1 hp with rfl | hp
  ·exact h.1
  ·exact Zap h.2 p hp
theorem Kq {Er:SE} {v:SV} {ok:Nat->Bool}:∀ {phs:Phs} {k:Nat} {is is':List Nat} {ps:List (SV × SV)} {ls:List (Nat × Nat)},dePh P all Er o v ok k phs is=some (ps,ls,is')->(∀ p ∈ ps,p.1=p.2)->(∀ p ∈ ls,p.1=p.2)->QEs P n all o Er v ok k phs
 | [],k,is,is',ps,ls,h,hp,hl=>trivial
 | p::r,k,is,is',ps,ls,h,hp,hl=>by
  unfold dePh at h;split at h
  ·rename_i hk
   exact ⟨fun e=>by (rw [hk] at e;cases e),Kq h hp hl⟩
  ·split at h
   ·rename_i v' l1 is1 hv
    split at h
    ·rename_i ps' ls' is2 hr
     cases h;have e:v'=v:=hp (v',v) List.mem_cons_self;subst e;exact ⟨fun _ G hG=>Zbd hv (fun q hq=>hl q (List.mem_append_left _ hq)) G hG,Kq hr (fun q hq=>hp q (List.mem_cons_of_mem _ hq)) (fun q hq=>hl q (List.mem_append_right _ hq))⟩
    ·cases h
   ·cases h
theorem Di {L0:List Oper} {ef gs:List Nat} {phs:Phs}:∀ {R:List Oper} {vs:List SV} {E:SE} {is:List Nat} {b:Nat} {ps:List (SV × SV)} {ls:List (Nat × Nat)},deQ P L0 ef gs phs b R vs E is=some (ps,ls)->(∀ p ∈ ps,p.1=p.2)->(∀ p ∈ ls,p.1=p.2) ->
  ∀ (i:Nat) (o:Oper) (v:SV),R[i]?=some o->vs[i]?=some v->V7 (b+i) ef 0=none->V7 (b+i) gs 0=none->QEs P n L0.toArray o (erOf L0.toArray (Wb R vs E i) o) v (Nn L0 ef (b+i) o) 0 phs
 | [],[],E,is,b,ps,ls,_,_,_=>fun i o v h=>by simp at h
 | [],_::_,E,is,b,ps,ls,h,_,_=>by unfold deQ at h;cases h
 | _::_,[],E,is,b,ps,ls,h,_,_=>by unfold deQ at h;cases h
 | o::r,v::vs,E,is,b,ps,ls,h,hp,hl=>by
  unfold deQ at h;split at h
  ·rename_i ps1 ls1 is1 h1
   split at h
   ·rename_i ps2 ls2 h2
    cases h;intro i o' v' hi hv hef hgs;cases i with
    | zero =>
     cases hi;cases hv;rw [Nat.add_zero] at hef hgs ⊢;rw [hef,hgs] at h1;exact Kq h1 (fun q hq=>hp q (List.mem_append_left _ hq)) (fun q hq=>hl q (List.mem_append_left _ hq))
    | succ i =>
     have:=Di h2 (fun q hq=>hp q (List.mem_append_right _ hq)) (fun q hq=>hl q (List.mem_append_right _ hq)) i o' v' (by simpa using hi) (by simpa using hv) (by rw [show b+1+i=b+(i+1) by omega];exact hef) (by rw [show b+1+i=b+(i+1) by omega];exact hgs);rw [show b+1+i=b+(i+1) by omega] at this;exact this
   ·cases h
  ·cases h
theorem Dh {L0:List Oper} {ef gs:List Nat} {phs:Phs}:∀ {R:List Oper} {vs:List SV} {E:SE} {is:List Nat} {b:Nat} {x:List (SV × SV) × List (Nat × Nat)},deQ P L0 ef gs phs b R vs E is=some x->R.length=vs.length
 | [],[],E,is,b,x,_=>rfl
 | [],_::_,E,is,b,x,h=>by unfold deQ at h;cases h
 | _::_,[],E,is,b,x,h=>by unfold deQ at h;cases h
 | o::r,v::vs,E,is,b,x,h=>by
  unfold deQ at h;split at h
  ·split at h
   ·rename_i h2
    rw [List.length_cons,List.length_cons,Dh h2]
   ·cases h
  ·cases h
theorem QW_of {L0:List Oper} {ef:List Nat} {phs:Phs}:∀ {R:List Oper} {vs:List SV} {E:SE} {b:Nat},R.length=vs.length->(∀ (i:Nat) (o:Oper) (v:SV),R[i]?=some o->vs[i]?=some v->QE P l n D L0 ef phs (b+i) o (erOf L0.toArray (Wb R vs E i) o) v)->QW P l n D L0 ef phs b R vs E
 | [],[],E,b,_,_=>trivial
 | [],_::_,E,b,h,_=>by cases h
 | _::_,[],E,b,h,_=>by cases h
 | o::r,v::vs,E,b,h,hq=>⟨hq 0 o v rfl rfl,QW_of (by simpa using h) (fun i o' v' hi hv=>by
   have:=hq (i+1) o' v' (by simpa using hi) (by simpa using hv);rw [show b+(i+1)=b+1+i by omega] at this;exact this)⟩
theorem D3 {vs:List SV}:∀ {es:List Nat} {p:Nat × Ch} {r:Phs},Efs P l n D L vs E es p r->∀ (j e:Nat),es[j]?=some e->∃ q q' o v,(p::r)[j]?=some q/\(p::r)[j+1]?=some q'/\L[e]?=some o/\vs[e]?=some v/\HE P l n L.toArray D o (erOf L.toArray (Wb L vs E e) o) v q.1 q.2 q'.1 q'.2
 | [],p,r,_,j,e,h=>by simp at h
 | _::_,p,[],h,_,_,_=>h.elim
 | e0::es,p,q::r,⟨h1,h2⟩,0,e,he=>by
  cases he;split at h1
  ·rename_i o v ho hv
   exact ⟨p,q,o,v,J,J,ho,hv,h1⟩
  ·exact h1.elim
 | e0::es,p,q::r,⟨h1,h2⟩,j+1,e,he=>by
  obtain ⟨a,b,o,v,c1,c2,c3⟩:=D3 h2 j e (by simpa using he);exact ⟨a,b,o,v,by simpa using c1,by simpa using c2,c3⟩
theorem Dx {vs:List SV} {ef:List Nat} {phs:Phs}:∀ {gs:List Nat},Gvs P n L vs E ef phs gs->∀ g ∈ gs,∃ o v,L[g]?=some o/\vs[g]?=some v/\QEs P n L.toArray o (erOf L.toArray (Wb L vs E g) o) v (Nn L ef g o) 0 phs
 | [],_,g,h=>by cases h
 | g0::gs,⟨h1,h2⟩,g,hg=>by
  rcases List.mem_cons.1 hg with rfl | hg
  ·split at h1
   ·rename_i o v ho hv
    exact ⟨o,v,ho,hv,h1⟩
   ·exact h1.elim
  ·exact Dx h2 g hg
theorem Y0 {id N':Nat} {H':Ch} (vs:List SV) (ef:List Nat) (ps:Phs) (is:List Nat) (E2:SE) (ds gs:List Nat) (hm:P.follows .mixedOrders=true) (he:Efs P l n D L vs E ef (N,H) ps) (hg:Gvs P n L vs E ef ((N,H)::ps) gs) (hl:((N,H)::ps)[ef.length]?=some (N',H')) (k:HQ n w0 F B0 N0 T G0 Q .normal (E2++Qj E ds) D N' H')
  (h1:Mx L=true:=by kernel_rfl) (h2:Q5 L=true:=by kernel_rfl) (h3:ckRd L.toArray L=true:=by kernel_rfl) (h4:ckN n L=true:=by kernel_rfl) (h5:ckEf L ef=true:=by kernel_rfl)
  (hq:outD (deQ P L ef gs ((N,H)::ps) 0 L vs E is)=some (sndD (deQ P L ef gs ((N,H)::ps) 0 L vs E is)):=by kernel_rfl) (h:(E2.map (·.1)).map (slook (Wb L vs E L.length))=E2.map (fun p=>some p.2):=by kernel_rfl) (hw:ckW (Qj E ds) L (E2.map (·.1))=true:=by kernel_rfl):HC P l n w0 F B0 N0 T G0 Q (.region id L.toArray true) E D N H:=by
 cases hr:deQ P L ef gs ((N,H)::ps) 0 L vs E is with
 | none=>rw [hr] at hq;cases hq
 | some s =>
  rw [hr] at hq;simp only [outD,sndD,Option.map_some,Option.some.injEq,Prod.mk.injEq] at hq;have hlen:=Dh hr;have hget:=Di (n:=n) hr (Zap hq.1) (Lu hq.2);refine Hg vs ef ((N,H)::ps) hm h1 h2 h3 h4 h5 J (QW_of hlen fun i o v hi hv=>?_) hl (Zex (Ol h (fun j hj=>Q2 hj) hw) (Z7 k));rw [Nat.zero_add];cases hp:V7 i ef 0 with
  | some j =>
   obtain ⟨k',hk',hef⟩:=Uo hp;rw [Nat.zero_add] at hk';subst hk';obtain ⟨q,q',o',v',c1,c2,c3,c4,c5⟩:=D3 he j i hef;rw [hi] at c3;rw [hv] at c4;cases c3;cases c4;exact .inr ⟨j,q.1,q.2,q'.1,q'.2,hp,c1,c2,c5⟩
  | none =>
   refine .inl ⟨hp,?_⟩;cases hp2:V7 i gs 0 with
   | some j =>
    obtain ⟨k',_,hgs⟩:=Uo hp2;obtain ⟨o',v',c3,c4,c5⟩:=Dx hg i (List.mem_of_getElem? hgs);rw [hi] at c3;rw [hv] at c4;cases c3;cases c4;exact c5
   | none =>
    have:=hget i o v hi hv (by rw [Nat.zero_add];exact hp) (by rw [Nat.zero_add];exact hp2);rw [Nat.zero_add] at this;exact this
theorem Qm {f:FuncId} {xx:Operand} {xs:Array Operand} {ts:Array TypeId} {u c m:List SV} {v:SV} {N1:Nat} {H1:Ch} (q r:Nat) (is js:List Nat) (hng:Vh P) (hw:wants E all o.guard=some true) (ho:o.op=.call ⟨.value xx,xs,ts⟩) (hx:sev E xx=some (.fn f u c)) (hxs:sargs E xs.toList=some m)
  (hF:HF P f (u++m++c) N (Yd (H.take q) is++H.drop q) (fun a b c=>a=v/\b=N1/\c=H1)) (hp:putD n E o.dst v=some E') (k:HL P l n all w0 F B0 N0 T G0 Q L E' D N1 (H1.take r++(Yd (H.take q) js++H1.drop r))) (hn:(is++js).Nodup:=by decide):HL P l n all w0 F B0 N0 T G0 Q (o::L) E D N H:=by
 have:=HL_cdT (A:=H.take q) (U:=H.drop q) (A1:=H1.take r) (U1:=H1.drop r) is js _ hng hw ho hx hxs hn (by rw [List.take_append_drop];exact hF) hp J k
 rwa [List.take_append_drop] at this
theorem Xo {f:FuncId} {xx:Operand} {xs:Array Operand} {ts:Array TypeId} {u c m:List SV} {Rp:SV->Nat->Ch->Prop} (q:Nat) (is js:List Nat) (hng:Vh P) (hw:wants E all o.guard=some true) (ho:o.op=.call ⟨.value xx,xs,ts⟩) (hx:sev E xx=some (.fn f u c)) (hxs:sargs E xs.toList=some m)
  (hF:HF P f (u++m++c) N (Yd (H.take q) is++H.drop q) Rp) (k:∀ v N' H',Rp v N' H'->∃ E' H2,putD n E o.dst v=some E'/\(H'++Yd (H.take q) js).Perm H2/\HL P l n all w0 F B0 N0 T G0 Q L E' D N' H2) (hn:(is++js).Nodup:=by decide):HL P l n all w0 F B0 N0 T G0 Q (o::L) E D N H:=by
 have:=HL_calT (A:=H.take q) (U:=H.drop q) is js hng hw ho hx hxs hn hF k
 rwa [List.take_append_drop] at this
theorem Wk {fn:Func} {m:List SV} {R:SV->Nat->Ch->Prop} {T:List Nat} (q:Nat) (is:List Nat) (he:e=.normal\/e=.ret) (hng:Vh P) (hr:resT E fn.results.toList=some m) (hR:R (resV m) N (Yd (H.take q) is++H.drop q)) (hn:is.Nodup:=by decide) :
  HQ n w0 F B0 N0 T G0 (bodyPostM (Wz none) 0 P fn (Fin B0 N0 w0 F fun v N' G'=>∃ H',R v N' H'/\Hx T N0 G0 H' G')) e E [] N H:=by
 have:=HQ_finT (P:=P) (n:=n) (w0:=w0) (F:=F) (B0:=B0) (N0:=N0) (G0:=G0) (T:=T) (A:=H.take q) (U:=H.drop q) is he hng hr hn hR
 rwa [List.take_append_drop] at this
theorem Nc {fn:Func} {m:List SV} {Rp:SV->Nat->Ch->Prop} {T:List Nat} {i b:Nat} {sb:SB} (q:Nat) (is:List Nat) (he:e=.normal\/e=.ret) (hng:Vh P) (hi:H[i]?=some (b,sb)) (hE:V8 (rho [b] N) E El) (hr:resL P El (one (shB sb)) fn.results.toList=some (shL m)) (hR:Rp (resV m) N (Yd (H.take q) is++H.drop q)) (hn:is.Nodup:=by decide) :
  HQ n w0 F B0 N0 T G0 (bodyPostM (Wz none) 0 P fn (Fin B0 N0 w0 F fun v N' G'=>∃ H',Rp v N' H'/\Hx T N0 G0 H' G')) e E [] N H:=by
 have:=Zew (P:=P) (n:=n) (w0:=w0) (F:=F) (B0:=B0) (N0:=N0) (G0:=G0) (T:=T) (A:=H.take q) (U:=H.drop q) is he hng (by rw [List.take_append_drop];exact hi) hE hr hn hR
 rwa [List.take_append_drop] at this
theorem Rl {i i' t e sz by_ x y b b' ln k k' o' m j:Nat} {js:List Nat} {c c' cc:List SV} (q:Nat) (hq:apInfo P e=some (sz,by_)) (ht:slOf P t=some e) (hw:wants E all o.guard=some true) (ho:o.op=.call ⟨.builtin .append,#[.tmp x,.tmp y],#[t,t]⟩)
  (hx:slook E x=some (.sl b 0 ln 0)) (hy:slook E y=some (.sl b' o' m j)) (hxy:Nat.beq x y=false) (hi:H[i]?=some (b,.row e sz k c)) (hi':H[i']?=some (b',.row e sz k' c')) (hn:(i::js).Nodup) (hna:(i::js).all (fun a=>Nat.blt a (H.take q).length)=true) (hii:Nat.beq i i'=false) (hl:ln<=k) (hlen:(cutAt c' o' (m*sz)).length=m*sz) (hone:(cutAt c' o' (m*sz)).all sOne=true)
  (hbd:(ln+m)*(by_+1)<=1000000) (hm:0<m) (hp:putD n E o.dst (.sl N 0 (ln+m) 0)=some E') (hcc:c.take (ln*sz)++cutAt c' o' (m*sz)=cc) (kk:HL P l n all w0 F B0 N0 T G0 Q L E' D (N+1) ((N,.row e sz (ln+m) cc)::(Yd H js++H.drop q))):HL P l n all w0 F B0 N0 T G0 Q (o::L) E D N H:=by
 have e1:=List.take_append_drop q H;have:=HL_appT (P:=P) (l:=l) (all:=all) (w0:=w0) (F:=F) (B0:=B0) (N0:=N0) (T:=T) (G0:=G0) (Q:=Q) (A:=H.take q) (U:=H.drop q) (D:=D) (N:=N) (L:=L) _ hq ht hw ho hx hy hxy (by rw [e1];exact hi) (by rw [e1];exact hi') hn hna hii hl hlen hone hbd hm hp hcc J (by rw [e1];exact kk)
 rwa [e1] at this
theorem HL_a0t {i' t e sz by_ x y b' k' o' m j:Nat} {c' cc:List SV} (q:Nat) (js:List Nat) (hq:apInfo P e=some (sz,by_)) (ht:slOf P t=some e) (hw:wants E all o.guard=some true) (ho:o.op=.call ⟨.builtin .append,#[.tmp x,.tmp y],#[t,t]⟩)
  (hx:slook E x=some (Zz)) (hy:slook E y=some (.sl b' o' m j)) (hxy:Nat.beq y x=false) (hi':H[i']?=some (b',.row e sz k' c')) (hlen:(cutAt c' o' (m*sz)).length=m*sz) (hone:(cutAt c' o' (m*sz)).all sOne=true)
  (hbd:m*(by_+1)<=1000000) (hm:0<m) (hp:putD n E o.dst (.sl N 0 m 0)=some E') (hcc:cutAt c' o' (m*sz)=cc) (hjs:(0::js).Nodup) (hna:(0::js).all (fun a=>Nat.blt a ((H.take q).length+1))=true) (kk:HL P l n all w0 F B0 N0 T G0 Q L E' D (N+1) (Yd ((N,.row e sz m cc)::H) (0::js)++H.drop q)):HL P l n all w0 F B0 N0 T G0 Q (o::L) E D N H:=by
 have e1:=List.take_append_drop q H;have:=HL_apnT (P:=P) (l:=l) (all:=all) (w0:=w0) (F:=F) (B0:=B0) (N0:=N0) (T:=T) (G0:=G0) (Q:=Q) (A:=H.take q) (U:=H.drop q) (D:=D) (N:=N) (L:=L) js _ hq ht hw ho hx hy hxy (by rw [e1];exact hi') hlen hone hbd hm hp hcc hjs hna J (by rw [e1];exact kk)
 rwa [e1] at this
theorem hf1 {f:FuncId} {fn:Func} {c:Code} {args:List SV} {R:SV->Nat->Ch->Prop} (hf:P.funcs[f]?=some fn) (hb:fn.body=some c) (hn:fn.ntmps=n)
  (h:∀ w0 F B0 G0,HC P none n w0 F B0 N (H.map (·.1)) G0 (bodyPostM (Wz none) 0 P fn (Fin B0 N w0 F fun v N' G'=>∃ H',R v N' H'/\Hx (H.map (·.1)) N G0 H' G')) c (snumber 0 args) [] N H) (hl:Nat.ble args.length n=true:=by rfl):HF P f args N H R:=by
 subst hn;exact hfOf hf hb hl h
theorem Zd {id:Nat} (h:HL P l n L.toArray w0 F B0 N0 T G0 (Exit.then (y.wpIn (Wz l) 0 P Q) Q) L E D N H):HC P l n w0 F B0 N0 T G0 Q (.seq (.region id L.toArray false) y) E D N H:=Z2 (Zo h)
theorem Zg (h:HC P l n w0 F B0 N0 T G0 Q y E D N H):HL P l n all w0 F B0 N0 T G0 (Exit.then (y.wpIn (Wz l) 0 P Q) Q) [] E D N H:=Z7 (Zr h)
theorem Z1 (h:HC P l n w0 F B0 N0 T G0 (Exit.then (y.wpIn (Wz l) 0 P Q) Q) x E D N H):HL P l n all w0 F B0 N0 T G0 (Exit.then ((Code.seq x y).wpIn (Wz l) 0 P Q) Q) [] E D N H:=Z7 (Zr (Z2 h))
theorem Zx {id:Nat} (h:HL P l n L.toArray w0 F B0 N0 T G0 (Exit.then (y.wpIn (Wz l) 0 P Q) Q) L E D N H):HL P l n all w0 F B0 N0 T G0 (Exit.then ((Code.seq (.region id L.toArray false) y).wpIn (Wz l) 0 P Q) Q) [] E D N H:=Z7 (Zr (Z2 (Zo h)))
theorem Yh {id:Nat} (h:HL P l n L.toArray w0 F B0 N0 T G0 (Exit.then (y.wpIn (Wz l) 0 P Q) Q) L E D N H):HQ n w0 F B0 N0 T G0 (Exit.then ((Code.seq (.region id L.toArray false) y).wpIn (Wz l) 0 P Q) Q) .normal E D N H:=Zr (Z2 (Zo h))
end
end S



namespace S
open Go Go.RowKit E
def T4 (P:Program) (ops:Array Oper) (l:List Nat) (a:Act) (w:World) (l':List Nat) (a':Act) (w':World):Prop:=∀ (b:Frame) (k:List Item) (cs:List Frame),b.roundOf=none ->
 StepsIn (Machine.fenced P (Wz none)) P (lone (b.atR a (.inRegion ops l::k)) cs w) (lone (b.atR a' (.inRegion ops l'::k)) cs w')
theorem fw (P:Program) (M:Machine):M.fenced P (Wz none):=fenced_wide P M
section
variable {P:Program} {ops:Array Oper} {i:Nat} {rest:List Nat} {o:Oper} {a:Act} {w w':World}
theorem T4.refl (l:List Nat):T4 P ops l a w l a w:=fun _ _ _ _=>.refl _
theorem T4.trans {l l1 l2:List Nat} {a1 a2:Act} {w1 w2:World} (h:T4 P ops l a w l1 a1 w1) (h':T4 P ops l1 a1 w1 l2 a2 w2):T4 P ops l a w l2 a2 w2:=fun b k cs hb=>(h b k cs hb).trans (h' b k cs hb)
theorem to_val {v:Value} (ho:ops[i]?=some o) (hw:Region.wanted o (yielded ops a.tmps)=true) (hr:(execOp a.eval o).run P w=.ok (.value v) w'):T4 P ops (i::rest) a w rest (a.put o.dst v) w':=by
 intro b k cs hro;have hg:=stepGR_op (P:=P) (b:=b) (k:=k) (cs:=cs) (w:=w) (rest:=rest) ho hw;rw [hro] at hg;have hfin:(b.atR a (.inRegion ops (i::rest)::k)).finish v=b.atR (a.put o.dst v) (.inRegion ops rest::k):=by rw [Frame.finish_atR,ho];rfl
 refine .one (fw P _) (step_lone_go ?_);rw [hg,<- hfin,Oper.semAt_none];simp [stepG.apply,hr]
theorem to_send {ch x:Operand} {c cap s r:Nat} {buf:Array Value} {tm:Bool} (ho:ops[i]?=some o) (hw:Region.wanted o (yielded ops a.tmps)=true) (hop:o.op=.send ch x) (hc:a.eval ch=.chan (some c)) (hob:w.heap[c]?=some (.chan cap buf false s r tm)) (hroom:buf.size<cap) :
  T4 P ops (i::rest) a w rest (a.put o.dst undef) (w.putObj c (.chan cap (buf.push (a.eval x)) false (s+1) r tm)):=by
 intro b k cs hro;have hg:=stepGR_op (P:=P) (b:=b) (k:=k) (cs:=cs) (w:=w) (rest:=rest) ho hw;rw [hro] at hg;have hfin:(b.atR a (.inRegion ops (i::rest)::k)).finish undef=b.atR (a.put o.dst undef) (.inRegion ops rest::k):=by rw [Frame.finish_atR,ho];rfl
 have hrun:(execOp a.eval o).run P w=.ok (.comm #[Go.Conc.scase c (a.eval x) (.tuple #[])] true .send) w:=by simp [execOp,hop,hc,Go.Conc.scase]
 refine .one (fw P _) ?_
 have hst:∃ es,stepG P true (Go.Conc.G (b.atR a (.inRegion ops (i::rest)::k)) cs) w=.comm (Go.Conc.G (b.atR a (.inRegion ops (i::rest)::k)) cs) #[Go.Conc.scase c (a.eval x) (.tuple #[])] true .send w es:=by
  have hg':stepG P true (Go.Conc.G (b.atR a (.inRegion ops (i::rest)::k)) cs) w=_:=hg;rw [hg',Oper.semAt_none];simp only [stepG.apply,Sem.runT_eq,hrun,if_true];exact ⟨_,J⟩
 obtain ⟨es,hst⟩:=hst;have:=Go.Conc.step_lone_send_room hst hob hroom;rw [hfin] at this;exact this
theorem D8 {ch:Operand} {c cap s r e:Nat} {tm:Bool} {z:Value} (ho:ops[i]?=some o) (hw:Region.wanted o (yielded ops a.tmps)=true) (hop:o.op=.select #[⟨ch,none,e⟩] false) (hz:tZero P e=some z) (hc:a.eval ch=.chan (some c)) (hob:w.heap[c]?=some (.chan cap #[] false s r tm)) :
  T4 P ops (i::rest) a w rest (a.put o.dst (.tuple #[goInt (-1),.bool false,z])) w:=by
 intro b k cs hro;have hg:=stepGR_op (P:=P) (b:=b) (k:=k) (cs:=cs) (w:=w) (rest:=rest) ho hw;rw [hro] at hg;have hfin:(b.atR a (.inRegion ops (i::rest)::k)).finish (.tuple #[goInt (-1),.bool false,z])=b.atR (a.put o.dst (.tuple #[goInt (-1),.bool false,z])) (.inRegion ops rest::k):=by rw [Frame.finish_atR,ho];rfl
 have hrun:(execOp a.eval o).run P w=.ok (.comm #[Go.Conc.rcase c z] false .select) w:=by
  simp [execOp,hop,hc,Go.Conc.rcase,U9 hz w]
 refine .one (fw P _) ?_
 have hst:∃ es,stepG P true (Go.Conc.G (b.atR a (.inRegion ops (i::rest)::k)) cs) w=.comm (Go.Conc.G (b.atR a (.inRegion ops (i::rest)::k)) cs) #[Go.Conc.rcase c z] false .select w es:=by
  have hg':stepG P true (Go.Conc.G (b.atR a (.inRegion ops (i::rest)::k)) cs) w=_:=hg;rw [hg',Oper.semAt_none];simp only [stepG.apply,Sem.runT_eq,hrun,if_true];exact ⟨_,J⟩
 obtain ⟨es,hst⟩:=hst;have:=Go.Conc.step_lone_select_default hst hob;rw [hfin] at this;exact this
theorem Nv {id:Nat} {a':Act} {Q:Exit->Act->World->Prop} (h:T4 P ops (List.range ops.size) a w [] a' w') (hQ:Q .normal a' w'):(Code.region id ops false).wpIn (Wz none) 0 P Q a w:=by
 intro b k cs hro hb hr;exact ⟨.normal,a',w',hQ,StepsIn.trans (.one (fw P _) stepR_region) ((h b k cs hro).trans (.one (fw P _) stepR_region_end))⟩
end
/-! ### Two blocks alone -/
section
variable {w0 w w':World} {F:List Nat} {B:Nm} {σ:St}
noncomputable def two (x y:SB):St:=((St.mk 2 .nil).set 0 (some x)).set 1 (some y)
def Lj (p q:Nat × Nat):Nm:=fun i=>if i=0 then some p else if i=1 then some q else none
theorem Lf (x y:SB) (i:Nat):(two x y).get i=if i=1 then some y else if i=0 then some x else none:=by
 unfold two;rw [St.get_set _ (by unfold lim;omega),St.get_set _ (by unfold lim;omega)];rfl
/-- The two are all that is told. -/
theorem Sx.two (hs:Sx w0 F B σ w) {b c:Nat} {x y x' y':SB} {p q:Nat × Nat} (hb:σ.get b=some x) (hc:σ.get c=some y) (hbc:b≠c) (hp:B b=some p) (hq:B c=some q) (hx:Blk (Lj p q) p x' w.heap[p.1]?) (hy:Blk (Lj p q) q y' w.heap[q.1]?) :
  Sx w [p.1,q.1] (Lj p q) (two x' y') w:=by
 have hpq:p.1≠q.1:=fun e=>hbc (hs.apart b c x y p q hb hc hp hq e);have t0:Lj p q 0=some p:=rfl;have t1:Lj p q 1=some q:=rfl;refine ⟨Fr.refl _ _,by show 2<=lim;unfold lim;omega,fun i hi=>?_,fun i sb hi=>?_,fun i j x1 y1 r s hi hj hr hs' e=>?_⟩
 ·have hi':2<=i:=hi;exact ⟨fun _=>by unfold Lj;rw [if_neg (by omega),if_neg (by omega)],by rw [Lf,if_neg (by omega),if_neg (by omega)]⟩
 ·rw [Lf] at hi;by_cases h1:i=1
  ·subst h1;rw [if_pos rfl] at hi;cases hi;exact ⟨q,t1,hy,.inl (by simp)⟩
  ·rw [if_neg h1] at hi;by_cases h0:i=0
   ·subst h0;rw [if_pos rfl] at hi;cases hi;exact ⟨p,t0,hx,.inl (by simp)⟩
   ·rw [if_neg h0] at hi;cases hi
 ·rw [Lf] at hi hj
  have hi2:i=0\/i=1:=by
   by_cases h1:i=1
   ·exact .inr h1
   ·rw [if_neg h1] at hi;by_cases h0:i=0
    ·exact .inl h0
    ·rw [if_neg h0] at hi;cases hi
  have hj2:j=0\/j=1:=by
   by_cases h1:j=1
   ·exact .inr h1
   ·rw [if_neg h1] at hj;by_cases h0:j=0
    ·exact .inl h0
    ·rw [if_neg h0] at hj;cases hj
  rcases hi2 with rfl | rfl<;>rcases hj2 with rfl | rfl
  ·rfl
  ·rw [t0] at hr;rw [t1] at hs';cases hr;cases hs';exact absurd e hpq
  ·rw [t1] at hr;rw [t0] at hs';cases hr;cases hs';exact absurd e.symm hpq
  ·rfl
/-- Only one of them has changed. -/
theorem Sx.back (hs:Sx w0 F B σ w) {c:Nat} {y y':SB} {q:Nat × Nat} (hc:σ.get c=some y) (hq:B c=some q) (hfr:Fr [q.1] w w') (hy:Blk B q y' w'.heap[q.1]?):Sx w0 F B (σ.set c (some y')) w':=by
 obtain ⟨q',hq',_,hF⟩:=hs.own c y hc;rw [hq] at hq';cases hq';have hl:=hs.idl hc;refine ⟨hs.low.trans hfr (fun x hx=>by simp at hx;subst hx;exact hF),hs.bd,fun k hk=>?_,fun j x hj=>?_,fun j k x1 y1 r s hj hk hr hs' e=>?_⟩
 ·have hk':σ.n<=k:=hk;exact ⟨(hs.new k hk').1,by rw [σ.get_set hl,if_neg (by have:=hs.idx hc;omega)];exact (hs.new k hk').2⟩
 ·rw [σ.get_set hl] at hj;by_cases e:j=c
  ·rw [if_pos e] at hj;cases hj;subst e;exact ⟨q,hq,hy,hF⟩
  ·rw [if_neg e] at hj;obtain ⟨r,hr,hk,hF'⟩:=hs.own j x hj;refine ⟨r,hr,?_,hF'⟩;rw [hfr.block r.1 (hs.lt hj hr) (fun hm=>e (hs.apart j c x y r q hj hc hr hq (by simpa using hm)))];exact hk
 ·have key:∀ (k:Nat) (z:SB),(σ.set c (some y')).get k=some z->∃ z',σ.get k=some z':=by
   intro k z hk;rw [σ.get_set hl] at hk;by_cases e:k=c
   ·subst e;exact ⟨y,hc⟩
   ·rw [if_neg e] at hk;exact ⟨z,hk⟩
  obtain ⟨x',hx'⟩:=key j x1 hj;obtain ⟨y1',hy'⟩:=key k y1 hk;exact hs.apart j k x' y1' r s hx' hy' hr hs' e
end
theorem none_ok (P:Program):XOk P (fun _=>none):=fun f g args σ v σ' h=>by cases h
theorem Pn (P:Program):Fu P (fun _=>false):=fun f h=>by cases h
end S
namespace S
open Go Go.RowKit E
theorem Pt {P:Program} {f:FuncId} {fn:Func} {c:Code} {args:Array Value} {u:FrameMode} {w:World} {R:Ending->FrameMode->World->Prop} (hf:P.funcs[f]?=some fn) (hb:fn.body=some c)
  (h:∀ (c₀:Frame) (cs:List Frame),c₀.mode=u->c.wpS P (bodyPostS P fn c₀ cs R) { tmps:=args++Array.replicate (fn.ntmps - args.size) undef,defers:=[] } (c₀::cs) w):CallsDIn (Wz none) 0 P f args u w R:=by
 refine ⟨trivial,fun c₀ cs hu _=>?_⟩;let b:Frame:={ (default:Frame) with fn:=f,kind:=.deferred }
 have henter:Frame.enter P f args .deferred=b.at { tmps:=args++Array.replicate (fn.ntmps - args.size) undef,defers:=[] } [.code c]:=by
  simp [Frame.enter,Frame.at,hf,hb,b]
 obtain ⟨e,a',cs',w',hq,harr⟩:=h c₀ cs hu b [] rfl rfl;rw [<- henter] at harr;cases e with
 | normal =>
  obtain ⟨hd,u',rfl,v,hr,hR⟩:=hq;exact ⟨.returned v,u',w',_,hR,comesIn_wide.2 (show Comes P _ _ (.returned v) from Steps.trans harr (.one step_end)),J,J,J,hd,fn,hf,hr⟩
 | ret =>
  obtain ⟨hd,u',rfl,v,hr,hR⟩:=hq;obtain ⟨todo,hs⟩:=harr;exact ⟨.returned v,u',w',_,hR,comesIn_wide.2 (show Comes P _ _ (.returned v) from hs),J,J,J,hd,fn,hf,hr⟩
 | panic chain =>
  obtain ⟨hd,u',rfl,hR⟩:=hq;obtain ⟨todo,hs⟩:=harr;exact ⟨.panicked chain,u',w',_,hR,comesIn_wide.2 (show Comes P _ _ (.panicked chain) from hs),J,J,J,hd,fn,hf⟩
 | exit id=>exact hq.elim
 | goto l=>exact hq.elim
 | outgrown =>
  obtain ⟨u',hR⟩:=hq;exact ⟨.outgrown,u',w',b,hR,comesIn_wide.2 (show Comes P _ _ .outgrown from harr.resolve_left (by simp [b])),J,J,trivial⟩
theorem Jt {w:World} {b k:Nat} {cs:List Value} {t:TypeId} {v:Value} (h:w.heap[b]?=some (.cells cs.toArray t (0,0))) (hk:k<cs.length):w.setCell ⟨b,k,none⟩ v=w.setRow b (put cs k [v]).toArray:=by
 unfold World.setCell World.setRow;congr 1;apply Array.ext_getElem?;intro i;rw [Array.getElem?_modify,Array.getElem?_modify];split
 ·rename_i e;subst e;rw [h]
  simp only [Option.map_some,Option.isSome_none,Bool.false_eq_true,if_false]
  have:cs.toArray.setIfInBounds k v=(put cs k [v]).toArray:=by
   simp only [List.setIfInBounds_toArray,put];congr 1;rw [List.set_eq_take_append_cons_drop];simp [hk]
  rw [this]
 ·rfl
def dc0 (f:FuncId):Bool:=Nat.beq f 119 || Nat.beq f 110 || Nat.beq f 102 || Nat.beq f 126
section
set_option maxRecDepth 4000
theorem idleS (p:Addr) (x:Value) (w:World) (hc:w.cell? p=some x) (hz:w.frozen? p=false) :
  CallsDIn (Wz none) 0 Tryz.prog 119 #[.pointer (some p)] .returning w fun e u' w'=>e=.returned (.tuple #[])/\u'=.returning/\w'=w.setCell p .nilIface:=by
 refine Pt Tryz.func119 J fun c₀ cs hu=>?_;apply wpS_region;simp [wpOpsS,go_sem,recoverD,hu,Tryz.ntmps119,hc,hz,bodyPostS,results,Tryz.results119];cases c₀;simp_all
theorem idleC (p:Addr) (x:Value) (w:World) (hc:w.cell? p=some x) (hz:w.frozen? p=false) :
  CallsDIn (Wz none) 0 Tryz.prog 110 #[.pointer (some p)] .returning w fun e u' w'=>e=.returned (.tuple #[])/\u'=.returning/\w'=w.setCell p .nilIface:=by
 refine Pt Tryz.func110 J fun c₀ cs hu=>?_;apply wpS_region;simp [wpOpsS,go_sem,recoverD,hu,Tryz.ntmps110,hc,hz,bodyPostS,results,Tryz.results110];cases c₀;simp_all
theorem idleB (p:Addr) (x:Value) (w:World) (hc:w.cell? p=some x) (hz:w.frozen? p=false) :
  CallsDIn (Wz none) 0 Tryz.prog 102 #[.pointer (some p)] .returning w fun e u' w'=>e=.returned (.tuple #[])/\u'=.returning/\w'=w.setCell p .nilIface:=by
 refine Pt Tryz.func102 J fun c₀ cs hu=>?_;apply wpS_region;simp [wpOpsS,go_sem,recoverD,hu,Tryz.ntmps102,hc,hz,bodyPostS,results,Tryz.results102];cases c₀;simp_all
theorem idleR (p:Addr) (x:Value) (w:World) (hc:w.cell? p=some x) (hz:w.frozen? p=false) :
  CallsDIn (Wz none) 0 Tryz.prog 126 #[.pointer (some p)] .returning w fun e u' w'=>e=.returned (.tuple #[])/\u'=.returning/\w'=w.setCell p .nilIface:=by
 refine Pt Tryz.func126 J fun c₀ cs hu=>?_;apply wpS_region;simp [wpOpsS,go_sem,recoverD,hu,Tryz.ntmps126,hc,hz,bodyPostS,results,Tryz.results126];cases c₀;simp_all
end
theorem Pq {f:FuncId} {fn:Func} (hf:Tryz.prog.funcs[f]?=some fn) (hb:fn.body.isNone=false) (h:∀ (p:Addr) (x:Value) (w:World),w.cell? p=some x->w.frozen? p=false->CallsDIn (Wz none) 0 Tryz.prog f #[.pointer (some p)] .returning w fun e u' w'=>e=.returned (.tuple #[])/\u'=.returning/\w'=w.setCell p .nilIface) :
  (∃ fn,Tryz.prog.funcs[f]?=some fn/\fn.body.isNone=false)/\∀ (w:World) (b k:Nat) (cs:List Value) (t:TypeId),w.heap[b]?=some (.cells cs.toArray t (0,0))->k<cs.length ->
   CallsDIn (Wz none) 0 Tryz.prog f #[.pointer (some ⟨b,k,none⟩)] .returning w fun e u w'=>(∃ v,e=.returned v)/\u=.returning/\w'=w.setRow b (put cs k [.nilIface]).toArray :=
 ⟨⟨fn,hf,hb⟩,fun w b k cs t hw hk=>by
  refine (h ⟨b,k,none⟩ (cs[k]) w ?_ ?_).mono ?_
  ·unfold World.cell?;simp only;rw [hw];simp [hk]
  ·unfold World.frozen?;simp only;rw [hw];simp
  ·rintro e u w' ⟨rfl,rfl,rfl⟩;exact ⟨⟨_,J⟩,J,Jt hw hk⟩⟩
theorem O6:Fu Tryz.prog dc0:=by
 intro f hf;unfold dc0 at hf;simp only [Bool.or_eq_true] at hf;rcases hf with ((hf | hf) | hf) | hf<;>(have:=Nat.eq_of_beq_eq_true hf;subst this)
 ·exact Pq Tryz.func119 (by kernel_rfl) idleS
 ·exact Pq Tryz.func110 (by kernel_rfl) idleC
 ·exact Pq Tryz.func102 (by kernel_rfl) idleB
 ·exact Pq Tryz.func126 (by kernel_rfl) idleR
theorem Yt:Tryz.prog.follows .mixedOrders=true:=by kernel_rfl
theorem Zj:Vh Tryz.prog:=by
 have h:Tryz.prog.funcs.toList.all (fun fn => !(fn.name=="runtime.NumGoroutine"))=true:=by kernel_rfl
 intro f fn hf;have:=List.all_eq_true.1 h fn (List.mem_of_getElem? (by rw [<- Array.getElem?_toList] at hf;exact hf))
 simpa using this
end S


namespace S
open Go Go.RowKit E
section
set_option maxRecDepth 10000
variable {f s N ln:Nat} {a0 a1 a2 a3 a5 a6 v:SV} {c:List SV}
theorem Pp {tt:Nat} {x:SV} (hl:c.length=ln) (hbd:ln<=50000) :
  HF Tryz.prog 287 [.ptr f 0,.ifc tt x] N [(f,.cells [a0,a1,a2,a3,.sl s 0 ln 0,a5,a6]),(s,.row 366 1 ln c)] fun u N' H'=>u=.tup []/\N'=N+2/\H'=[(f,.cells [a0,a1,a2,a3,.sl (N+1) 0 (ln+1) 0,a5,a6]),(N+1,.row 366 1 (ln+1) (c++[.ifc tt x]))]:=by
 refine hf1 Tryz.func287 J Tryz.ntmps287 fun _ _ _ _=>?_;refine Zo (Zy 7 [0] [(4,Zq f 0),(8,Zk s 0 ln 0),(10,Zk N 0 1 0)] [] (N+1) [(N,Zw 366 1 1 [SV.ifc tt (x)])] [] (Uw (i:=2) (i':=0) (e:=366) (sz:=1) (by_:=16) (js:=[1]) (cc:=(c++[SV.ifc tt x])) _ (by kernel_rfl) (by kernel_rfl) J J J J J J J (by decide) J (by omega) J J (by omega) (by omega) J (ap_one hl _) J ?_));refine Zy 3 [1] [] [] (N+2) [] [(1,Zc [a0,a1,a2,a3,Zk (N+1) 0 (ln+1) 0,a5,a6])] (Z7 (Z5 [1,0] (.inl J) Zj J (by decide) ?_));exact ⟨J,J,J⟩
theorem Ey {tt:Nat} {x:SV} :
  HF Tryz.prog 287 [.ptr f 0,.ifc tt x] N [(f,.cells [a0,a1,a2,a3,Zz,a5,a6])] fun u N' H'=>u=.tup []/\N'=N+2/\H'=[(f,.cells [a0,a1,a2,a3,.sl (N+1) 0 1 0,a5,a6]),(N+1,.row 366 1 1 [.ifc tt x])]:=by
 refine hf1 Tryz.func287 J Tryz.ntmps287 fun _ _ _ _=>?_;refine Zo (Zy 7 [0] [(4,Zq f 0),(8,Zz),(10,Zk N 0 1 0)] [] (N+1) [(N,Zw 366 1 1 [SV.ifc tt (x)])] [] (Ux (i':=0) (e:=366) (sz:=1) (by_:=16) (cc:=[SV.ifc tt (x)]) [2] _ (by kernel_rfl) (by kernel_rfl) J J J J J J J J (by omega) (by omega) J (J) (by decide) J ?_));refine Zy 3 [1] [] [] (N+2) [] [(1,Zc [a0,a1,a2,a3,Zk (N+1) 0 1 0,a5,a6])] (Z7 (Z5 [1,0] (.inl J) Zj J (by decide) ?_));exact ⟨J,J,J⟩
theorem Lp {m k:Nat} (hl:ln<=k) (hbd:ln<=50000) (hm:m<=ln) (hm0:0<m) :
  HF Tryz.prog 307 [.ptr f 0,Zn m] N [(f,.cells [a0,a1,a2,a3,.sl s 0 ln 0,a5,a6]),(s,.row 366 1 k c)] fun u N' H'=>u=.sl s (ln - m) m (ln - m)/\N'=N/\H'=[(f,.cells [a0,a1,a2,a3,.sl s 0 (ln - m) 0,a5,a6]),(s,.row 366 1 k c)]:=by
 refine hf1 Tryz.func307 J Tryz.ntmps307 fun _ _ _ _=>?_;refine Zd (Za 1 [] [(4,Zz)] [] (Zx (Za 6 [0] [(11,Zn ln),(12,Zn m)] [] (Zu (v:=Zn (ln - m)) J (Qw J J J (by omega) (by omega)) J ?_))));refine Za 1 [] [(5,Zn (ln - m))] [] (Zx (Za 5 [0] [(17,Zk s 0 ln 0),(18,Zn (ln - m))] [] (HL_from (i:=1) (e:=366) (sz:=1) (k:=k) (m:=(ln - m)) J J (by kernel_rfl) (by kernel_rfl) J J J J (by omega) (by omega) (by omega) J ?_)));refine Za 1 [] [(6,Zk s (0+(ln - m)*1) (ln - (ln - m)) (0+(ln - m)))] [] (Zx (Za 6 [0] [(20,Zq f 0),(24,Zk s 0 ln 0),(25,Zn (ln - m))] [] (Du (i:=1) (e:=366) (sz:=1) (k:=k) (m:=(ln - m)) J J (by kernel_rfl) (by kernel_rfl) J J J J (by omega) J ?_)));refine Zy 3 [0] [] [] N [] [(0,Zc [a0,a1,a2,a3,Zk s 0 (ln - m) 0,a5,a6])] (Zx (Za 2 [] [(4,Zk s (0+(ln - m)*1) (ln - (ln - m)) (0+(ln - m)))] [] (Zg (Yc (Z5 [0,1] (.inr J) Zj J (by decide) ?_)))));refine ⟨?_,J,J⟩;show Zk _ _ _ _=_;rw [Nat.zero_add,Nat.zero_add,Nat.mul_one,Nat.sub_sub_self hm]
theorem at_end (hl:c.length=ln) (v:SV):(c++[v])[ln+0*1]?=some v:=by subst hl;simp
theorem Nq (hl:c.length=ln) (d:List SV):(c++d).take (ln*1)=c:=by subst hl;simp
theorem R7 (hl:c.length=ln) (hbd:ln+1<=50000) :
  HF Tryz.prog 288 [.ptr f 0] N [(f,.cells [a0,a1,a2,a3,.sl s 0 (ln+1) 0,a5,a6]),(s,.row 366 1 (ln+1) (c++[v]))] fun u N' H'=>u=v/\N'=N/\H'=[(f,.cells [a0,a1,a2,a3,.sl s 0 ln 0,a5,a6]),(s,.row 366 1 ln c)]:=by
 refine hf1 Tryz.func288 J Tryz.ntmps288 fun _ _ _ _=>?_;refine Zd (Za 1 [] [(2,Zf)] [] (Zx (Za 1 [] [(3,Zq f 0)] [] (Z0 [0,1] [1,0] Zj J J J J (Lp (m:=1) (Nat.le_refl _) hbd (by omega) (by omega)) J ?_))));refine Zu (v:=.ptr s (ln+0*1)) J (Xe J J J (by kernel_rfl) (by omega)) J ?_;refine Yp (i:=1) (v:=v) J J J J (Xd (by kernel_rfl) (at_end hl v)) J ?_;refine Za 1 [] [(2,v)] [] (Zg (Yc (M9 (i:=1) (k':=ln) (c2:=c) [(f,.cells [a0,a1,a2,a3,Zk s 0 ln 0,a5,a6]),(s,.row 366 1 ln c)] J (by omega) (Nq hl _) J ?_)));refine Z5 [0,1] (.inr J) Zj J (by decide) ?_;exact ⟨J,J,J⟩
theorem Jl {x:Int} (hl:c.length=ln) (hbd:ln+1<=50000) :
  HF Tryz.prog 294 [.ptr f 0] N [(f,.cells [a0,a1,a2,a3,.sl s 0 (ln+1) 0,a5,a6]),(s,.row 366 1 (ln+1) (c++[.ifc 3 (Zi x)]))] fun u N' H'=>u=Zi x/\N'=N/\H'=[(f,.cells [a0,a1,a2,a3,.sl s 0 ln 0,a5,a6]),(s,.row 366 1 ln c)]:=by
 refine hf1 Tryz.func294 J Tryz.ntmps294 fun _ _ _ _=>?_;refine Zd (Za 1 [] [(2,Zi 0)] [] (Zx (Za 1 [] [(3,Zq f 0)] [] (Z0 [0,1] [1,0] Zj J J J J (R7 hl hbd) J (Za 2 [] [(2,Zi x)] [] (Zg (Yc (Z5 [0,1] (.inr J) Zj J (by decide) ?_))))))));exact ⟨J,J,J⟩
end
end S
namespace S
open Go Go.RowKit E
section
variable {E:SE} {o:Oper} {t t':Nat} {p q:Operand} {x y:Int} {P:Program}
theorem U5 {b:Bool} (ho:o.op=.binOp .lss t p q t') (hx:sev E p=some (Zi x)) (hy:sev E q=some (Zi y)) (h:ilt x y=b):noD P E bare o=some (Zb b):=by
 subst h;unfold noD act;rw [ho];simp only [hx,hy,exBin,Vk];rfl
theorem ilt_yes {m n:Int} (h:m<n):ilt m n=true:=Xf.2 h
theorem ilt_no {m n:Int} (h:¬ m<n):ilt m n=false:=Bool.eq_false_iff.2 fun hc=>h (Xf.1 hc)
end
abbrev nT:List SV:=[Zi 1,Ze]
section
set_option maxRecDepth 10000
variable {N w s ln:Nat} {c0 c1 c2 c3 gr m0 m1 m2 m3 m4 m5 m7 m8 m9 lo re:SV} {nu at_ dp:Int} {c:List SV} {t1 t2:SV}
theorem V3 {v:SV}:HF Tryz.prog 163 [v,Zb true] N [] fun u N' H'=>u=.tup []/\N'=N/\H'=[]:=by
 refine hf1 Tryz.func163 J Tryz.ntmps163 fun _ _ _ _=>?_;refine Zd (Za 2 [] [(5,Zb false)] [] (Zg (Z6 J (Ya (Z5 [] (.inl J) Zj J (by decide) ?_)))));exact ⟨J,J,J⟩
end
end S
end Go.Proofs.YtpofmnfkdkmieaaGreat
