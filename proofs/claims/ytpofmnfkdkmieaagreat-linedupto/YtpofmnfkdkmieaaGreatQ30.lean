/- What is proved here: which class of a line starts next, where -/
import Derived.Test.YtpofmnfkdkmieaaGreatQ29
import Derived.Test.YtpofmnfkdkmieaaGreatQ16
set_option linter.unusedVariables false
set_option linter.unusedSimpArgs false
namespace Go.Proofs.YtpofmnfkdkmieaaGreat
namespace S
open Go Go.RowKit E
def prB (t:Nat):List LP->Ch
 | []=>[]
 | p::r=>(p.c,p.cB (Xh t r))::(p.tB++(p.xB++prB t r))
theorem T6 {ob:Nat} {suf:List LP}:∀ pre:List LP,Xh ob (pre++suf)=Xh (Xh ob suf) pre
 | []=>rfl
 | _::_=>rfl
theorem Wg {ob:Nat} {suf:List LP}:∀ pre:List LP,lnB ob (pre++suf)=prB (Xh ob suf) pre++lnB ob suf
 | []=>rfl
 | p::r=>by
  show (p.c,p.cB (Xh ob (r++suf)))::(p.tB++(p.xB++lnB ob (r++suf)))=((p.c,p.cB (Xh (Xh ob suf) r))::(p.tB++(p.xB++prB (Xh ob suf) r)))++lnB ob suf;rw [Wg r,T6 r,List.cons_append,List.append_assoc,List.append_assoc]
def LP.nx (p:LP):NX:=⟨p.c,Zs (nmL p.j),Zs (nmL p.j),Zs (spL p.j),.sl p.rf 0 1 0,p.mR,.sl p.fr 0 1 0,p.mM,.sl p.sr 0 1 0,Zz⟩
def exN:List LP->Ch
 | []=>[]
 | p::r=>p.tB++(p.xB++exN r)
theorem topX_eq {ob:Nat}:∀ ls:List LP,topX ob (ls.map fun p=>(p.nx,p.up))=Xh ob ls
 | []=>rfl
 | _::_=>rfl
theorem ln_nx {ob:Nat}:∀ ls:List LP,(lnB ob ls).Perm (nxH id ob (ls.map fun p=>(p.nx,p.up))++exN ls)
 | []=>List.Perm.refl _
 | p::r=>by
  show ((p.c,_)::(p.tB++(p.xB++lnB ob r))).Perm ((p.c,p.nx.cB id (.ptr (topX ob (r.map fun p=>(p.nx,p.up))) 0) p.up)::(nxH id ob (r.map fun p=>(p.nx,p.up))++(p.tB++(p.xB++exN r))));rw [topX_eq];refine List.Perm.cons _ ?_;rw [<- List.append_assoc,<- List.append_assoc p.tB];refine ((ln_nx r).append_left _).trans ?_;rw [<- List.append_assoc,<- List.append_assoc];exact (List.perm_append_comm).append_right _
def Stt (s:Nat) (ls:List LP):Prop:=∀ p ∈ ls,p.up=decide (p.j<s)
theorem Wf.tl {bt:Nat->Bool} {p:LP} {r:List LP} (h:Wf bt (p::r)):Wf bt r:=h.2.2
theorem Wf.lt {bt:Nat->Bool}:∀ {ls:List LP},Wf bt ls->∀ p ∈ ls,p.j<ls.length
 | [],_,p,hp=>by cases hp
 | q::r,h,p,hp=>by
  rw [List.length_cons];rcases List.mem_cons.1 hp with rfl | hp
  ·have:=h.1;omega
  ·have:=Wf.lt h.2.2 p hp;omega
theorem Vp {bt:Nat->Bool} {k:Nat}:∀ {ls:List LP},Wf bt ls->k<ls.length->∃ pre p r,ls=pre++p::r/\r.length=k/\p.j=k/\p.b=bt k/\p.c=cAt ls k
 | [],_,h=>by cases h
 | q::r,hw,h=>by
  by_cases e:k=r.length
  ·exact ⟨[],q,r,J,e.symm,by rw [hw.1,e],by rw [hw.2.1,hw.1,e],by rw [S9 e]⟩
  ·rw [List.length_cons] at h;obtain ⟨pre,p,r',h1,h2,h3,h4,h5⟩:=Vp hw.2.2 (show k<r.length by omega);exact ⟨q::pre,p,r',by rw [h1];rfl,h2,h3,h4,by rw [Q6 e];exact h5⟩
theorem Pu {suf:List LP} {j:Nat} (h:j<suf.length):∀ pre:List LP,cAt (pre++suf) j=cAt suf j
 | []=>rfl
 | p::r=>by
  rw [List.cons_append,Q6 (by rw [List.length_append];omega)];exact Pu h r
theorem Wf.app {bt:Nat->Bool} {suf:List LP}:∀ {pre:List LP},Wf bt (pre++suf)->Wf bt suf
 | [],h=>h
 | _::_,h=>Wf.app h.2.2
theorem Jp {bt:Nat->Bool} {s:Nat}:∀ {ls:List LP},Wf bt ls->Stt s ls->∃ a b,ls=a++b/\(∀ p ∈ a,p.up=false)/\(∀ p ∈ b,p.up=true)/\b.length=min s ls.length/\(s<ls.length->∃ q,a.getLast?=some q/\q.c=cAt ls s)
 | [],_,_=>⟨[],[],rfl,(fun p hp=>by cases hp),(fun p hp=>by cases hp),(by simp),(fun h=>by cases h)⟩
 | p::r,hw,hs=>by
  obtain ⟨a,b,h1,h2,h3,h4,h5⟩:=Jp hw.2.2 (fun q hq=>hs q (List.mem_cons_of_mem _ hq));have hp:=hs p List.mem_cons_self;have hj:=hw.1;by_cases e:r.length<s
  ·refine ⟨[],p::r,J,(fun q hq=>by cases hq),fun q hq=>?_,(by rw [List.length_cons,Nat.min_eq_right (by omega)]),(fun h=>by rw [List.length_cons] at h;omega)⟩;rw [hs q hq,decide_eq_true_eq];have:=hw.lt q hq;rw [List.length_cons] at this;omega
  ·refine ⟨p::a,b,(by rw [h1];rfl),fun q hq=>?_,h3,(by rw [h4,List.length_cons,Nat.min_eq_left (by omega),Nat.min_eq_left (by omega)]),fun _=>?_⟩
   ·rcases List.mem_cons.1 hq with rfl | hq
    ·rw [hp,decide_eq_false_iff_not];omega
    ·exact h2 q hq
   ·by_cases e2:s=r.length
    ·have hb:b.length=r.length:=by rw [h4,e2,Nat.min_self]
     have ha:a=[]:=by
      have:=congrArg List.length h1;rw [List.length_append] at this;exact List.length_eq_zero_iff.1 (by omega)
     subst ha;exact ⟨p,J,by rw [S9 e2]⟩
    ·obtain ⟨q,hq,hc⟩:=h5 (by omega);refine ⟨q,?_,by rw [Q6 e2];exact hc⟩;cases a with
     | nil=>cases hq
     | cons a0 a1=>rw [List.getLast?_cons_cons];exact hq
theorem Gk {x:Bool}:∀ {a:List LP},(∀ p ∈ a,p.up=x)->a.map (fun p=>(p.nx,p.up))=(a.map LP.nx).map (·,x)
 | [],_=>rfl
 | p::r,h=>by
  rw [List.map_cons,List.map_cons,List.map_cons,Gk (fun q hq=>h q (List.mem_cons_of_mem _ hq)),h p List.mem_cons_self]
theorem nextL {bt:Nat->Bool} {N ob s k:Nat} {ls:List LP} (hw:Wf bt ls) (hs:Stt s ls) (hk:k<ls.length) (hl:ls.length<=8) (hsk:s<=k):HF Tryz.prog 349 [.ptr (cAt ls k) 0] N (lnB ob ls) fun u _ H'=>u=.ptr (cAt ls s) 0/\H'=lnB ob ls:=by
 obtain ⟨pre,p,r,rfl,hr,hj,hb,hc⟩:=Vp hw hk;rw [<- hc];have hlen:(p::r).length=k+1:=by rw [List.length_cons,hr]
 rw [Pu (by omega)];obtain ⟨a,b,h1,h2,h3,h4,h5⟩:=Jp hw.app (fun q hq=>hs q (List.mem_append_right _ hq));obtain ⟨q,hq,hqc⟩:=h5 (by omega);have hab:=congrArg List.length h1;rw [List.length_append,hlen] at hab;rw [hlen,Nat.min_eq_left (by omega)] at h4;rw [List.length_append,hlen] at hl
 have hhead:(a.map LP.nx).head?.map NX.c=some p.c:=by
  cases a with
  | nil=>cases hq
  | cons a0 a1=>rw [List.cons_append] at h1;injection h1 with e1 e2;subst e1;rfl
 have hlast:(a.map LP.nx).getLast?.map NX.c=some (cAt (p::r) s):=by
  rw [List.getLast?_map,hq,<- hqc];rfl
 have h:=nxt_any (N:=N) (ob:=ob) (k - s) s (a.map LP.nx) (b.map LP.nx) (by rw [List.length_map];omega) (by rw [List.length_map];omega) (by omega) _ _ hhead hlast;rw [<- Gk h2,<- Gk h3,<- List.map_append,<- h1] at h;refine HF.stay (h.stay (ln_nx (p::r))) (K:=prB (Xh ob (p::r)) pre) ?_;rw [Wg];exact List.perm_append_comm
end S
namespace S
open Go Go.RowKit E
structure Ms where
 (mc:Nat) (m0 m1 m2 m3 m4 m6 m8 m9 m12 m13 m14 m16:SV)
abbrev Ms.B (x:Ms) (un ev:SV):SB:=.cells [x.m0,x.m1,x.m2,x.m3,x.m4,Zi 2,x.m6,.fn 18 [] [],x.m8,x.m9,Zz,un,x.m12,x.m13,x.m14,ev,x.m16]
abbrev evS (n:Nat):List SV:=[Zi 3,Zi 0,Zs (nmL n)]
abbrev evE (n:Nat):List SV:=[Zi 4,Zi 0,Zs (nmL n)]
structure Up (bt:Nat->Bool) (s:Nat) (ls ls':List LP) (q:LP):Prop where
 len:ls'.length=ls.length
 wf:Wf bt ls'
 stt:Stt (s+1) ls'
 cat:∀ j,cAt ls' j=cAt ls j
 qc:q.c=cAt ls s
 at_:∃ pre r,ls'=pre++q::r
 qj:q.j=s
 qb:q.b=bt s
section
variable {bt:Nat->Bool} {s:Nat} {q:LP} {r:List LP}
def LP.on (q:LP):LP:={ q with up:=true }
theorem wf_on:∀ {pre:List LP},Wf bt (pre++q::r)->Wf bt (pre++q.on::r)
 | [],h=>h
 | p::t,h=>⟨by rw [show p.j=(t++q::r).length from h.1,List.length_append];show _=(t++q.on::r).length;rw [List.length_append];rfl,h.2.1,wf_on h.2.2⟩
theorem Zek {j:Nat}:∀ pre:List LP,cAt (pre++q.on::r) j=cAt (pre++q::r) j
 | []=>rfl
 | p::t=>by
  show (if j=(t++q.on::r).length then _ else cAt (t++q.on::r) j)=(if j=(t++q::r).length then _ else cAt (t++q::r) j);rw [Zek t,List.length_append,List.length_append];rfl
theorem Zbg:∀ {pre:List LP},Wf bt (pre++q::r)->∀ p ∈ pre,r.length<p.j
 | [],_,p,hp=>by cases hp
 | a::t,h,p,hp=>by
  rcases List.mem_cons.1 hp with rfl | hp
  ·have:p.j=(t++q::r).length:=h.1;rw [List.length_append,List.length_cons] at this;omega
  ·exact Zbg h.2.2 p hp
theorem Fx {pre:List LP} (hw:Wf bt (pre++q::r)) (hs:Stt s (pre++q::r)) (hr:r.length=s) (hqc:q.c=cAt (pre++q::r) s):Up bt s (pre++q::r) (pre++q.on::r) q.on:=by
 have hwq:=hw.app;refine ⟨by simp,wf_on hw,fun p hp=>?_,fun j=>Zek pre,hqc,⟨pre,r,J⟩,by show q.j=s;rw [hwq.1,hr],by show q.b=bt s;rw [hwq.2.1,hwq.1,hr]⟩;rcases List.mem_append.1 hp with hp | hp
 ·have h1:=hs p (List.mem_append_left _ hp);have h2:=Zbg hw p hp;rw [h1,decide_eq_false (by omega),decide_eq_false (by omega)]
 ·rcases List.mem_cons.1 hp with rfl | hp
  ·show true=decide (q.j<s+1);rw [decide_eq_true (by rw [hwq.1];omega)]
  ·have h1:=hs p (List.mem_append_right _ (List.mem_cons_of_mem _ hp));have h2:=hwq.2.2.lt p hp;rw [h1,decide_eq_true (by omega),decide_eq_true (by omega)]
theorem S1 {X A T Z:Ch} {x:Nat × SB}:(X++(A++(x::(T++Z)))).Perm (X++(x::(Z++(A++T)))):=by
 refine List.Perm.append_left _ ?_;refine List.perm_middle.trans (List.Perm.cons _ ?_);rw [<- List.append_assoc];exact List.perm_append_comm
end
theorem Dj {N rf rc rm:Nat}:∀ j,j<8->HF Tryz.prog 18 [.agg [Zs (nmL j),Zs (spL j),.sl rf 0 1 0,.sl rm 0 1 0]] N [(rf,.row 128 4 1 Yk),(rc,Yr j),(rm,Yy rc)] fun u N' H'=>u=okK/\N'=N/\H'=[(rf,.row 128 4 1 Yk),(rc,Yr j),(rm,Yy rc)]
 | 0,_=>chk_t0
 | 1,_=>chk_t1
 | 2,_=>chk_t2
 | 3,_=>chk_t3
 | 4,_=>chk_t4
 | 5,_=>chk_t5
 | 6,_=>chk_t6
 | 7,_=>chk_t7
 | k+8,h=>by omega
theorem I6 {N rf:Nat}:∀ j,j<8->HF Tryz.prog 18 [.agg [Zs (nmL j),Zs (spL j),.sl rf 0 1 0,Zz]] N [(rf,.row 128 4 1 Yk)] fun u N' H'=>u=okK/\N'=N/\H'=[(rf,.row 128 4 1 Yk)]
 | 0,_=>chk_f0
 | 1,_=>chk_f1
 | 2,_=>chk_f2
 | 3,_=>chk_f3
 | 4,_=>chk_f4
 | 5,_=>chk_f5
 | 6,_=>chk_f6
 | 7,_=>chk_f7
 | k+8,h=>by omega
section
set_option maxRecDepth 10000
variable {bt:Nat->Bool} {N ob s k ev ek un:Nat} {evs:List SV} {v0:SV} {ls:List LP}
theorem Jn (x:Ms) (hw:Wf bt ls) (hs:Stt s ls) (hk:k<ls.length) (hl:ls.length<=8) (hsk:s<=k) (hb:bt s=true) (he:evs.length=ek*3) (hek:ek<=19000) (hv:sOne v0=true):HF Tryz.prog 316 [.ptr x.mc 0,.ptr (cAt ls k) 0] N ([(x.mc,x.B (.sl un 0 1 0) (.sl ev 0 ek 0)),(ev,.row 98 3 ek evs),(un,.row 364 1 1 [v0])]++lnB ob ls) fun u _ H'=>∃ ev1 un1 f lo q ls',u=.tup [Zp,Zb false]/\H'=[(x.mc,x.B (.sl un1 0 2 0) (.sl ev1 0 (ek+1) 0)),(ev1,.row 98 3 (ek+1) (evs++evS s)),(un1,.row 364 1 2 [v0,.ptr f 0]),(f,.cells [.ptr q.me 0,Zi 0,Zi 0,lo,Zz,.ptr q.c 0,Zp])]++lnB ob ls'/\Up bt s ls ls' q:=by
 have hnx:=fun M=>nextL (N:=M) (ob:=ob) hw hs hk hl hsk;by_cases e:k=s
 ·subst e;obtain ⟨pre,q,r,rfl,hr,hj,hqb,hqc⟩:=Vp hw hk;have hup:=Fx hw hs hr hqc;have hqu:=hs q (List.mem_append_right _ List.mem_cons_self);obtain ⟨qb,qu,qj,c,fr,sr,mr,me,cd,rf,rc,rm⟩:=q;simp only at hj hqb hqc hqu;subst hj;have hj8:qj<8:=by omega
  rw [decide_eq_false (Nat.lt_irrefl _)] at hqu;rw [hb] at hqb;subst hqu;subst hqb;rw [Wg] at hnx ⊢;rw [<- hqc] at hnx ⊢;have hp:([(x.mc,x.B (.sl un 0 1 0) (.sl ev 0 ek 0)),(ev,.row 98 3 ek evs),(un,.row 364 1 1 [v0])]++(prB c pre++lnB ob (⟨true,false,qj,c,fr,sr,mr,me,cd,rf,rc,rm⟩::r))).Perm ([(x.mc,x.B (.sl un 0 1 0) (.sl ev 0 ek 0)),(ev,.row 98 3 ek evs),(un,.row 364 1 1 [v0])]++(lnB ob (⟨true,false,qj,c,fr,sr,mr,me,cd,rf,rc,rm⟩::r)++prB c pre)):=List.Perm.append_left _ List.perm_append_comm;refine ((HF.conv (K:=[]) (A7 (mc:=x.mc) (c:=c) (sp:=Xh ob r) (j:=qj) (rf:=rf) (rc:=rc) (rm:=rm) (fr:=fr) (sr:=sr) (mr:=mr) (me:=me) (cd:=cd) (U:=([(fr,Zw 380 5 1 Vf),(sr,.row 366 1 1 [.ifc 3 (Zi 0)]),(cd,.row 475 8 3 (Wd (Xx (.ofNat qj)) 3))]++(lnB ob r++prB c pre))) he hek hv (fun _=>Dj _ hj8) (fun M=>(hnx M).stay (K:=[]) (by rw [List.append_nil];exact List.perm_append_comm (l₁:=lnB ob (⟨true,false,qj,c,fr,sr,mr,me,cd,rf,rc,rm⟩::r)) (l₂:=prB c pre)))) (by rw [List.append_nil];exact hp))).permR ?_;rintro u N' H1 ⟨H0,⟨ev1,un1,f,lo,rfl,rfl⟩,hpm⟩;rw [List.append_nil] at hpm;exact ⟨[(x.mc,x.B (.sl un1 0 2 0) (.sl ev1 0 (ek+1) 0)),(ev1,.row 98 3 (ek+1) (evs++evS qj)),(un1,.row 364 1 2 [v0,.ptr f 0]),(f,.cells [.ptr me 0,Zi 0,Zi 0,lo,Zz,.ptr c 0,Zp])]++(prB c pre++lnB ob (⟨true,true,qj,c,fr,sr,mr,me,cd,rf,rc,rm⟩::r)),hpm.symm.trans (List.Perm.append_left [(x.mc,x.B (.sl un1 0 2 0) (.sl ev1 0 (ek+1) 0)),(ev1,.row 98 3 (ek+1) (evs++evS qj)),(un1,.row 364 1 2 [v0,.ptr f 0]),(f,.cells [.ptr me 0,Zi 0,Zi 0,lo,Zz,.ptr c 0,Zp])] (List.perm_append_comm (l₁:=lnB ob (⟨true,true,qj,c,fr,sr,mr,me,cd,rf,rc,rm⟩::r)) (l₂:=prB c pre))),ev1,un1,f,lo,_,_,J,by rw [Wg];rfl,hup⟩
 ·obtain ⟨pre1,p,rk,rfl,hrk,hpj,hpb,hpc⟩:=Vp hw hk;have hpu:=hs p (List.mem_append_right _ List.mem_cons_self);obtain ⟨pre2,q,r,rfl,hr,hj,hqb,hqc⟩:=Vp (Wf.tl hw.app) (show s<rk.length by omega);have ecat:cAt (pre1++p::(pre2++q::r)) s=cAt (pre2++q::r) s:=by rw [Pu (by simp only [List.length_cons,hrk];omega),Q6 (by omega)]
  have e1:pre1++p::(pre2++q::r)=(pre1++p::pre2)++q::r:=by rw [List.append_assoc,List.cons_append]
  have hqu:=hs q (List.mem_append_right _ (List.mem_cons_of_mem _ (List.mem_append_right _ List.mem_cons_self)));have hup:=Fx (pre:=pre1++p::pre2) (q:=q) (r:=r) (s:=s) (by rw [<- e1];exact hw) (by rw [<- e1];exact hs) hr (by rw [<- e1,ecat];exact hqc);rw [<- e1,List.append_assoc,List.cons_append] at hup;obtain ⟨qb,qu,qj,c,fr,sr,mr,me,cd,rf,rc,rm⟩:=q;obtain ⟨pb,pu,pj,pc,pfr,psr,pmr,pme,pcd,prf,prc,prm⟩:=p;simp only at hj hqb hqc hqu hpj hpu hpc;subst hj;subst hpj;have hj8:qj<8:=by simp only [List.length_append,List.length_cons] at hl hk hrk;omega
  rw [decide_eq_false (Nat.lt_irrefl _)] at hqu;rw [decide_eq_false (by omega)] at hpu;rw [hb] at hqb;subst hqu;subst hqb;subst hpu;rw [ecat,<- hqc,<- hpc] at hnx;rw [<- hpc];rw [Wg] at hnx ⊢
  have e2:lnB ob (⟨pb,false,pj,pc,pfr,psr,pmr,pme,pcd,prf,prc,prm⟩::(pre2++⟨true,false,qj,c,fr,sr,mr,me,cd,rf,rc,rm⟩::r))=(pc,LP.cB ⟨pb,false,pj,pc,pfr,psr,pmr,pme,pcd,prf,prc,prm⟩ (Xh c pre2))::((LP.tB ⟨pb,false,pj,pc,pfr,psr,pmr,pme,pcd,prf,prc,prm⟩++(LP.xB ⟨pb,false,pj,pc,pfr,psr,pmr,pme,pcd,prf,prc,prm⟩++prB c pre2))++lnB ob (⟨true,false,qj,c,fr,sr,mr,me,cd,rf,rc,rm⟩::r)):=by
   show (pc,LP.cB _ (Xh ob (pre2++_)))::(_++(_++lnB ob (pre2++_)))=_;rw [T6,Wg,List.append_assoc,List.append_assoc];rfl
  have e3:lnB ob (⟨pb,false,pj,pc,pfr,psr,pmr,pme,pcd,prf,prc,prm⟩::(pre2++LP.on ⟨true,false,qj,c,fr,sr,mr,me,cd,rf,rc,rm⟩::r))=(pc,LP.cB ⟨pb,false,pj,pc,pfr,psr,pmr,pme,pcd,prf,prc,prm⟩ (Xh c pre2))::((LP.tB ⟨pb,false,pj,pc,pfr,psr,pmr,pme,pcd,prf,prc,prm⟩++(LP.xB ⟨pb,false,pj,pc,pfr,psr,pmr,pme,pcd,prf,prc,prm⟩++prB c pre2))++lnB ob (⟨true,true,qj,c,fr,sr,mr,me,cd,rf,rc,rm⟩::r)):=by
   show (pc,LP.cB _ (Xh ob (pre2++_)))::(_++(_++lnB ob (pre2++_)))=_;rw [T6,Wg,List.append_assoc,List.append_assoc];rfl
  rw [e2] at hnx ⊢;refine ((HF.conv (K:=[]) (A6 (mc:=x.mc) (c:=c) (sp:=Xh ob r) (j:=qj) (rf:=rf) (rc:=rc) (rm:=rm) (fr:=fr) (sr:=sr) (mr:=mr) (me:=me) (cd:=cd) (pc:=pc) (k0:=Zs (nmL pj)) (k1:=.ptr (Xh c pre2) 0) (k2:=Zs (nmL pj)) (k3:=Zs (spL pj)) (k4:=.sl prf 0 1 0) (k5:=LP.mR ⟨pb,false,pj,pc,pfr,psr,pmr,pme,pcd,prf,prc,prm⟩) (k7:=.sl pfr 0 1 0) (k8:=LP.mM ⟨pb,false,pj,pc,pfr,psr,pmr,pme,pcd,prf,prc,prm⟩) (k9:=.sl psr 0 1 0) (k10:=Zz) (U:=([(fr,Zw 380 5 1 Vf),(sr,.row 366 1 1 [.ifc 3 (Zi 0)]),(cd,.row 475 8 3 (Wd (Xx (.ofNat qj)) 3))]++(lnB ob r++(prB pc pre1++(LP.tB ⟨pb,false,pj,pc,pfr,psr,pmr,pme,pcd,prf,prc,prm⟩++(LP.xB ⟨pb,false,pj,pc,pfr,psr,pmr,pme,pcd,prf,prc,prm⟩++prB c pre2)))))) he hek hv (fun _=>Dj _ hj8) (fun M=>(hnx M).stay (K:=[]) (by rw [List.append_nil];exact (S1 (X:=[]) (A:=prB pc pre1) (x:=(pc,LP.cB ⟨pb,false,pj,pc,pfr,psr,pmr,pme,pcd,prf,prc,prm⟩ (Xh c pre2))) (T:=LP.tB ⟨pb,false,pj,pc,pfr,psr,pmr,pme,pcd,prf,prc,prm⟩++(LP.xB ⟨pb,false,pj,pc,pfr,psr,pmr,pme,pcd,prf,prc,prm⟩++prB c pre2)) (Z:=lnB ob (⟨true,false,qj,c,fr,sr,mr,me,cd,rf,rc,rm⟩::r))).symm))) (by rw [List.append_nil];exact S1))).permR ?_;rintro u N' H1 ⟨H0,⟨ev1,un1,f,lo,rfl,rfl⟩,hpm⟩;rw [List.append_nil] at hpm;exact ⟨[(x.mc,x.B (.sl un1 0 2 0) (.sl ev1 0 (ek+1) 0)),(ev1,.row 98 3 (ek+1) (evs++evS qj)),(un1,.row 364 1 2 [v0,.ptr f 0]),(f,.cells [.ptr me 0,Zi 0,Zi 0,lo,Zz,.ptr c 0,Zp])]++(prB pc pre1++((pc,LP.cB ⟨pb,false,pj,pc,pfr,psr,pmr,pme,pcd,prf,prc,prm⟩ (Xh c pre2))::((LP.tB ⟨pb,false,pj,pc,pfr,psr,pmr,pme,pcd,prf,prc,prm⟩++(LP.xB ⟨pb,false,pj,pc,pfr,psr,pmr,pme,pcd,prf,prc,prm⟩++prB c pre2))++lnB ob (⟨true,true,qj,c,fr,sr,mr,me,cd,rf,rc,rm⟩::r)))),hpm.symm.trans (S1 (X:=[(x.mc,x.B (.sl un1 0 2 0) (.sl ev1 0 (ek+1) 0)),(ev1,.row 98 3 (ek+1) (evs++evS qj)),(un1,.row 364 1 2 [v0,.ptr f 0]),(f,.cells [.ptr me 0,Zi 0,Zi 0,lo,Zz,.ptr c 0,Zp])]) (A:=prB pc pre1) (x:=(pc,LP.cB ⟨pb,false,pj,pc,pfr,psr,pmr,pme,pcd,prf,prc,prm⟩ (Xh c pre2))) (T:=LP.tB ⟨pb,false,pj,pc,pfr,psr,pmr,pme,pcd,prf,prc,prm⟩++(LP.xB ⟨pb,false,pj,pc,pfr,psr,pmr,pme,pcd,prf,prc,prm⟩++prB c pre2)) (Z:=lnB ob (⟨true,true,qj,c,fr,sr,mr,me,cd,rf,rc,rm⟩::r))).symm,ev1,un1,f,lo,_,_,J,by rw [Wg,e3];rfl,hup⟩
theorem Jo (x:Ms) (hw:Wf bt ls) (hs:Stt s ls) (hk:k<ls.length) (hl:ls.length<=8) (hsk:s<=k) (hb:bt s=false) (he:evs.length=ek*3) (hek:ek<=19000) (hv:sOne v0=true):HF Tryz.prog 316 [.ptr x.mc 0,.ptr (cAt ls k) 0] N ([(x.mc,x.B (.sl un 0 1 0) (.sl ev 0 ek 0)),(ev,.row 98 3 ek evs),(un,.row 364 1 1 [v0])]++lnB ob ls) fun u _ H'=>∃ ev1 q ls',u=.tup [Zp,Zb false]/\H'=[(x.mc,x.B (.sl un 0 1 0) (.sl ev1 0 (ek+1+1) 0)),(ev1,.row 98 3 (ek+1+1) (evs++evS s++evE s)),(un,.row 364 1 1 [v0])]++lnB ob ls'/\Up bt s ls ls' q:=by
 have hnx:=fun M=>nextL (N:=M) (ob:=ob) hw hs hk hl hsk;by_cases e:k=s
 ·subst e;obtain ⟨pre,q,r,rfl,hr,hj,hqb,hqc⟩:=Vp hw hk;have hup:=Fx hw hs hr hqc;have hqu:=hs q (List.mem_append_right _ List.mem_cons_self);obtain ⟨qb,qu,qj,c,fr,sr,mr,me,cd,rf,rc,rm⟩:=q;simp only at hj hqb hqc hqu;subst hj;have hj8:qj<8:=by omega
  rw [decide_eq_false (Nat.lt_irrefl _)] at hqu;rw [hb] at hqb;subst hqu;subst hqb;rw [Wg] at hnx ⊢;rw [<- hqc] at hnx ⊢;have hp:([(x.mc,x.B (.sl un 0 1 0) (.sl ev 0 ek 0)),(ev,.row 98 3 ek evs),(un,.row 364 1 1 [v0])]++(prB c pre++lnB ob (⟨false,false,qj,c,fr,sr,mr,me,cd,rf,rc,rm⟩::r))).Perm ([(x.mc,x.B (.sl un 0 1 0) (.sl ev 0 ek 0)),(ev,.row 98 3 ek evs),(un,.row 364 1 1 [v0])]++(lnB ob (⟨false,false,qj,c,fr,sr,mr,me,cd,rf,rc,rm⟩::r)++prB c pre)):=List.Perm.append_left _ List.perm_append_comm;refine ((HF.conv (K:=[]) (Zaa (mc:=x.mc) (c:=c) (sp:=Xh ob r) (j:=qj) (rf:=rf) (fr:=fr) (sr:=sr) (U:=([(fr,Zw 380 5 1 Vf),(sr,.row 366 1 1 [.ifc 3 (Zi 0)])]++(lnB ob r++prB c pre))) he hek hv (fun _=>I6 _ hj8) (fun M=>(hnx M).stay (K:=[]) (by rw [List.append_nil];exact List.perm_append_comm (l₁:=lnB ob (⟨false,false,qj,c,fr,sr,mr,me,cd,rf,rc,rm⟩::r)) (l₂:=prB c pre)))) (by rw [List.append_nil];exact hp))).permR ?_;rintro u N' H1 ⟨H0,⟨ev1,rfl,rfl⟩,hpm⟩;rw [List.append_nil] at hpm;exact ⟨[(x.mc,x.B (.sl un 0 1 0) (.sl ev1 0 (ek+1+1) 0)),(ev1,.row 98 3 (ek+1+1) (evs++evS qj++evE qj)),(un,.row 364 1 1 [v0])]++(prB c pre++lnB ob (⟨false,true,qj,c,fr,sr,mr,me,cd,rf,rc,rm⟩::r)),hpm.symm.trans (List.Perm.append_left [(x.mc,x.B (.sl un 0 1 0) (.sl ev1 0 (ek+1+1) 0)),(ev1,.row 98 3 (ek+1+1) (evs++evS qj++evE qj)),(un,.row 364 1 1 [v0])] (List.perm_append_comm (l₁:=lnB ob (⟨false,true,qj,c,fr,sr,mr,me,cd,rf,rc,rm⟩::r)) (l₂:=prB c pre))),ev1,_,_,J,by rw [Wg];rfl,hup⟩
 ·obtain ⟨pre1,p,rk,rfl,hrk,hpj,hpb,hpc⟩:=Vp hw hk;have hpu:=hs p (List.mem_append_right _ List.mem_cons_self);obtain ⟨pre2,q,r,rfl,hr,hj,hqb,hqc⟩:=Vp (Wf.tl hw.app) (show s<rk.length by omega);have ecat:cAt (pre1++p::(pre2++q::r)) s=cAt (pre2++q::r) s:=by rw [Pu (by simp only [List.length_cons,hrk];omega),Q6 (by omega)]
  have e1:pre1++p::(pre2++q::r)=(pre1++p::pre2)++q::r:=by rw [List.append_assoc,List.cons_append]
  have hqu:=hs q (List.mem_append_right _ (List.mem_cons_of_mem _ (List.mem_append_right _ List.mem_cons_self)));have hup:=Fx (pre:=pre1++p::pre2) (q:=q) (r:=r) (s:=s) (by rw [<- e1];exact hw) (by rw [<- e1];exact hs) hr (by rw [<- e1,ecat];exact hqc);rw [<- e1,List.append_assoc,List.cons_append] at hup;obtain ⟨qb,qu,qj,c,fr,sr,mr,me,cd,rf,rc,rm⟩:=q;obtain ⟨pb,pu,pj,pc,pfr,psr,pmr,pme,pcd,prf,prc,prm⟩:=p;simp only at hj hqb hqc hqu hpj hpu hpc;subst hj;subst hpj;have hj8:qj<8:=by simp only [List.length_append,List.length_cons] at hl hk hrk;omega
  rw [decide_eq_false (Nat.lt_irrefl _)] at hqu;rw [decide_eq_false (by omega)] at hpu;rw [hb] at hqb;subst hqu;subst hqb;subst hpu;rw [ecat,<- hqc,<- hpc] at hnx;rw [<- hpc];rw [Wg] at hnx ⊢
  have e2:lnB ob (⟨pb,false,pj,pc,pfr,psr,pmr,pme,pcd,prf,prc,prm⟩::(pre2++⟨false,false,qj,c,fr,sr,mr,me,cd,rf,rc,rm⟩::r))=(pc,LP.cB ⟨pb,false,pj,pc,pfr,psr,pmr,pme,pcd,prf,prc,prm⟩ (Xh c pre2))::((LP.tB ⟨pb,false,pj,pc,pfr,psr,pmr,pme,pcd,prf,prc,prm⟩++(LP.xB ⟨pb,false,pj,pc,pfr,psr,pmr,pme,pcd,prf,prc,prm⟩++prB c pre2))++lnB ob (⟨false,false,qj,c,fr,sr,mr,me,cd,rf,rc,rm⟩::r)):=by
   show (pc,LP.cB _ (Xh ob (pre2++_)))::(_++(_++lnB ob (pre2++_)))=_;rw [T6,Wg,List.append_assoc,List.append_assoc];rfl
  have e3:lnB ob (⟨pb,false,pj,pc,pfr,psr,pmr,pme,pcd,prf,prc,prm⟩::(pre2++LP.on ⟨false,false,qj,c,fr,sr,mr,me,cd,rf,rc,rm⟩::r))=(pc,LP.cB ⟨pb,false,pj,pc,pfr,psr,pmr,pme,pcd,prf,prc,prm⟩ (Xh c pre2))::((LP.tB ⟨pb,false,pj,pc,pfr,psr,pmr,pme,pcd,prf,prc,prm⟩++(LP.xB ⟨pb,false,pj,pc,pfr,psr,pmr,pme,pcd,prf,prc,prm⟩++prB c pre2))++lnB ob (⟨false,true,qj,c,fr,sr,mr,me,cd,rf,rc,rm⟩::r)):=by
   show (pc,LP.cB _ (Xh ob (pre2++_)))::(_++(_++lnB ob (pre2++_)))=_;rw [T6,Wg,List.append_assoc,List.append_assoc];rfl
  rw [e2] at hnx ⊢;refine ((HF.conv (K:=[]) (A9 (mc:=x.mc) (c:=c) (sp:=Xh ob r) (j:=qj) (rf:=rf) (fr:=fr) (sr:=sr) (pc:=pc) (k0:=Zs (nmL pj)) (k1:=.ptr (Xh c pre2) 0) (k2:=Zs (nmL pj)) (k3:=Zs (spL pj)) (k4:=.sl prf 0 1 0) (k5:=LP.mR ⟨pb,false,pj,pc,pfr,psr,pmr,pme,pcd,prf,prc,prm⟩) (k7:=.sl pfr 0 1 0) (k8:=LP.mM ⟨pb,false,pj,pc,pfr,psr,pmr,pme,pcd,prf,prc,prm⟩) (k9:=.sl psr 0 1 0) (k10:=Zz) (U:=([(fr,Zw 380 5 1 Vf),(sr,.row 366 1 1 [.ifc 3 (Zi 0)])]++(lnB ob r++(prB pc pre1++(LP.tB ⟨pb,false,pj,pc,pfr,psr,pmr,pme,pcd,prf,prc,prm⟩++(LP.xB ⟨pb,false,pj,pc,pfr,psr,pmr,pme,pcd,prf,prc,prm⟩++prB c pre2)))))) he hek hv (fun _=>I6 _ hj8) (fun M=>(hnx M).stay (K:=[]) (by rw [List.append_nil];exact (S1 (X:=[]) (A:=prB pc pre1) (x:=(pc,LP.cB ⟨pb,false,pj,pc,pfr,psr,pmr,pme,pcd,prf,prc,prm⟩ (Xh c pre2))) (T:=LP.tB ⟨pb,false,pj,pc,pfr,psr,pmr,pme,pcd,prf,prc,prm⟩++(LP.xB ⟨pb,false,pj,pc,pfr,psr,pmr,pme,pcd,prf,prc,prm⟩++prB c pre2)) (Z:=lnB ob (⟨false,false,qj,c,fr,sr,mr,me,cd,rf,rc,rm⟩::r))).symm))) (by rw [List.append_nil];exact S1))).permR ?_;rintro u N' H1 ⟨H0,⟨ev1,rfl,rfl⟩,hpm⟩;rw [List.append_nil] at hpm;exact ⟨[(x.mc,x.B (.sl un 0 1 0) (.sl ev1 0 (ek+1+1) 0)),(ev1,.row 98 3 (ek+1+1) (evs++evS qj++evE qj)),(un,.row 364 1 1 [v0])]++(prB pc pre1++((pc,LP.cB ⟨pb,false,pj,pc,pfr,psr,pmr,pme,pcd,prf,prc,prm⟩ (Xh c pre2))::((LP.tB ⟨pb,false,pj,pc,pfr,psr,pmr,pme,pcd,prf,prc,prm⟩++(LP.xB ⟨pb,false,pj,pc,pfr,psr,pmr,pme,pcd,prf,prc,prm⟩++prB c pre2))++lnB ob (⟨false,true,qj,c,fr,sr,mr,me,cd,rf,rc,rm⟩::r)))),hpm.symm.trans (S1 (X:=[(x.mc,x.B (.sl un 0 1 0) (.sl ev1 0 (ek+1+1) 0)),(ev1,.row 98 3 (ek+1+1) (evs++evS qj++evE qj)),(un,.row 364 1 1 [v0])]) (A:=prB pc pre1) (x:=(pc,LP.cB ⟨pb,false,pj,pc,pfr,psr,pmr,pme,pcd,prf,prc,prm⟩ (Xh c pre2))) (T:=LP.tB ⟨pb,false,pj,pc,pfr,psr,pmr,pme,pcd,prf,prc,prm⟩++(LP.xB ⟨pb,false,pj,pc,pfr,psr,pmr,pme,pcd,prf,prc,prm⟩++prB c pre2)) (Z:=lnB ob (⟨false,true,qj,c,fr,sr,mr,me,cd,rf,rc,rm⟩::r))).symm,ev1,_,_,J,by rw [Wg,e3];rfl,hup⟩
end
end S
namespace S
open Go Go.RowKit E
def Nb (P:Program) (t:TypeId) (name:String) (f:FuncId):Prop:=∀ (v:Value) (w:World),(method (P.types.size+Made.depth) t v name).run P w=.ok (f,v) w
section
variable {P:Program} {l:Option Nat} {n:Nat} {all:Array Oper} {w0 w w':World} {F:List Nat} {B B0:Nm} {N N0:Nat} {T:List Nat} {G0 G:Nat->Option SB} {H:Ch} {E E':SE} {D:List SD} {a:Act} {o:Oper} {L:List Oper} {Q:Exit->Act->World->Prop}
theorem run_inv {x:Operand} {ts:Array TypeId} {f t:Nat} {name:String} {v:Value} (hng:Vh P) (hf:∃ fn,P.funcs[f]?=some fn/\fn.body.isNone=false) (hm:Nb P t name f) (ho:o.op=.call ⟨.invoke x name,#[],ts⟩) (hx:a.eval x=.iface t v) :
  (execOp a.eval o).run P w=.ok (.enter f #[v]) w:=by
 obtain ⟨fn,hfn,hb⟩:=hf;have hn:=hng f fn hfn;have hp:(program:Sem Program).run P w=.ok P w:=rfl;simp only [execOp,ho,resolve,hx,Sem.run_bind,Sem.run_pure,Result.andThen_ok,invoke,callMethod,callFunc];simp [hp,hm v w,hfn];rw [if_neg (by intro e;rw [e] at hn;simp at hn),if_neg (by intro e;rw [e] at hb;cases hb)]
theorem GL_inv {x:Operand} {ts:Array TypeId} {f t:Nat} {name:String} {v:SV} {R:SV->Nat->(Nat->Option SB)->Prop} (hng:Vh P) (hw:wants E all o.guard=some true) (hm:Nb P t name f) (ho:o.op=.call ⟨.invoke x name,#[],ts⟩) (hx:sev E x=some (.ifc t v))
  (hF:GF P f [v] N G R) (k:∀ v N' G',R v N' G'->∃ E',putD n E o.dst v=some E'/\GL P l n all w0 F B0 N0 Q L E' D N' G'):GL P l n all w0 F B0 N0 Q (o::L) E D N G:=by
 intro B w a hs hg ha;simp only [wpListIn,Y6 ha hw];refine ⟨fun _ _=>trivial,?_⟩;rw [Oper.semAt_eq _ _ _ (fun c e=>by rw [ho] at e;cases e)];have he:=ha.eval hx;obtain ⟨z,hz,hfe⟩:=S7 he;rw [run_inv hng hF.1 hm ho hfe];refine ⟨fun h=>(by cases h),?_⟩;refine CallsIn.mono (hF.2 w0 F B w [z] hg (by simp only [Ym,hz])) ?_;rintro e w1 ⟨v,N',G',y,B1,hR,rfl,hsi,hd,hg1⟩;obtain ⟨E',hp,hk⟩:=k v N' G' hR;exact hk B1 w1 _ (hs.trans hsi) hg1 (W5 (ha.mono hsi.pre) hd hp)
theorem Hf {x:Operand} {ts:Array TypeId} {f t N1:Nat} {name:String} {v u:SV} {H1:Ch} (is ds:List Nat) (hng:Vh P) (hw:wants E all o.guard=some true) (hm:Nb P t name f) (ho:o.op=.call ⟨.invoke x name,#[],ts⟩) (hx:sev E x=some (.ifc t v))
  (hF:HF P f [v] N (Yd H is) (fun a b c=>a=u/\b=N1/\c=H1)) (hp:putD n E o.dst u=some E') (k:HL P l n all w0 F B0 N0 T G0 Q L E' D N1 (H1++Pg H ds)) (hd:ds.Perm is/\ds.Pairwise (·>·)/\is.Nodup:=by decide):HL P l n all w0 F B0 N0 T G0 Q (o::L) E D N H:=fun G hG B w a hs hg ha=>by
 have hfr:∀ i,N<=i->G i=none:=fun i hi=>(hg.new i hi).2;have hpm:H.Perm (Yd H is++Pg H ds):=(Qc ds H hd.2.1).trans ((Xz hd.1).append_right _);have hnd:((Yd H is++Pg H ds).map (·.1)).Nodup:=(hpm.map _).nodup_iff.1 hG.hs.nd;refine GL_inv hng hw hm ho hx (hF.2 G (hG.hs.pick hd.2.2) hfr) ?_ B w a hs hg ha;rintro v' N' G' ⟨H',⟨rfl,rfl,rfl⟩,hc⟩;exact ⟨E',hp,k G' (Hx.callS hG hs.le hfr (fun p hp=>Yq hp) (fun p hp=>hpm.mem_iff.2 (List.mem_append_right _ hp)) hnd hc)⟩
end
end S
namespace S
open Go Go.RowKit E
theorem Rx:Nb Tryz.prog 323 "atrium/machine.home" 418:=fun v w=>by kernel_rfl
theorem Oj:Nb Tryz.prog 384 "atrium/machine.home" 421:=fun v w=>by kernel_rfl
section
set_option maxRecDepth 10000
variable {N c mc ob k:Nat} {i:Int} {nb:ByteArray} {v:SV}
theorem Rz:HF Tryz.prog 418 [.agg [.ptr c 0]] N [] fun u N' H'=>u=.ptr c 0/\N'=N+1/\H'=[]:=by
 refine hf1 Tryz.func418 J Tryz.ntmps418 fun _ _ _ _=>?_;refine Zd (Zy 2 [] [(1,Zq N 0),(2,Zp)] [] (N+1) [(N,Zc [Zq c 0])] [] (Zx (Za 3 [0] [(2,Zq c 0)] [] (Zg (Yc (Z5 [] (.inr J) Zj J (by decide) ?_))))));exact ⟨J,J,J⟩
theorem Ow:HF Tryz.prog 421 [.agg [.ptr c 0,Zi i]] N [] fun u N' H'=>u=.ptr c 0/\N'=N+1/\H'=[]:=by
 refine hf1 Tryz.func421 J Tryz.ntmps421 fun _ _ _ _=>?_;refine Zd (Zy 2 [] [(1,Zq N 0),(2,Zp)] [] (N+1) [(N,Zc [Zq c 0,Zi i])] [] (Zx (Za 3 [0] [(2,Zq c 0)] [] (Zg (Yc (Z5 [] (.inr J) Zj J (by decide) ?_))))));exact ⟨J,J,J⟩
theorem O0 {U:Ch} {r1 r2 r3 r4:SV} {R:SV->Nat->Ch->Prop} (h1:sOne r1=true) (h2:sOne r2=true) (h3:sOne r3=true) (h4:sOne r4=true) (hH:∀ N,HF Tryz.prog 295 [.ptr mc 0,Zs nb] N U fun u N' H'=>∃ t x,u=.ifc t x/\R (.ifc t x) N' H'):HF Tryz.prog 213 [.ptr mc 0,.agg [Zs nb,r1,r2,r3,r4]] N U fun u N' H'=>∃ t x,u=.ifc t x/\R (.ifc t x) N' H':=by
 have hH':∀ N,HF Tryz.prog 295 [.ptr mc 0,Zs nb] N ([]++U) fun u N' H'=>∃ t x U1,u=.ifc t x/\H'=[]++U1/\R (.ifc t x) N' U1:=fun N=>(hH N).mono fun u N' H' ⟨t,x,h5,h6⟩=>⟨t,x,H',h5,rfl,h6⟩;show HF _ _ _ N ([]++U) _;refine hf1 Tryz.func213 J Tryz.ntmps213 fun _ _ _ _=>?_;refine Zd (Zy 2 [] [(3,Zq N 0),(4,Zf)] [] (N+1) [(N,Zc [Zs nb,r1,r2,r3,r4])] [] (Zx (Za 3 [0] [(5,Zq mc 0),(7,Zs nb)] [] (Xo 1 [] [0] Zj J J J J (hH' _) ?_))));rintro _ N1 U1 ⟨t,x,U2,rfl,rfl,hR⟩;refine ⟨_,([(N,Zc [Zs nb,r1,r2,r3,r4])]++U1),J,Yo (A:=[]) (R:=[(N,.cells [Zs nb,r1,r2,r3,r4])]) (T:=U1),?_⟩;refine Za 1 [] [(4,SV.ifc t (x))] [] (Zg (Yc (Wk 1 [] (.inr J) Zj J ?_)));exact ⟨t,x,J,hR⟩
end
end S
namespace S
open Go Go.RowKit E
section
variable {P:Program} {E:SE} {o:Oper} {t t':Nat} {p q:Operand} {x y:Int}
theorem no_geB {b:Bool} (ho:o.op=.binOp .geq t p q t') (hx:sev E p=some (Zi x)) (hy:sev E q=some (Zi y)) (h:ilt x y = !b):noD P E bare o=some (Zb b):=by
 unfold noD act;rw [ho];simp only [hx,hy,exBin,Vk];rw [h];cases b<;>rfl
end
section
set_option maxRecDepth 10000
variable {N mc f s c ln hp ob oj:Nat} {nb:ByteArray} {cc:List SV} {a0 a1 a2 a3 a5 a6 m0 m1 m2 m3 m4 m5 m6 m7 m8 m9 m10 m11 m12 m14 m15 m16 k0 k1 k2 k3 k4 k5 k6 k7 k8 k9:SV}
theorem Jv (h:hp<=100000):HF Tryz.prog 296 [.ptr mc 0,Zi 0] N [(mc,.cells [m0,m1,m2,m3,m4,m5,m6,m7,m8,m9,m10,m11,m12,Zn (hp+1),m14,m15,m16])] fun u N' H'=>u=Zb true/\N'=N/\H'=[(mc,.cells [m0,m1,m2,m3,m4,m5,m6,m7,m8,m9,m10,m11,m12,Zn hp,m14,m15,m16])]:=by
 refine hf1 Tryz.func296 J Tryz.ntmps296 fun _ _ _ _=>?_;refine Zd (Za 1 [] [(4,Zb false)] [] (Z1 (Zd (Za 5 [0] [(5,Zi 0),(9,Zn (hp+1))] [] ?_))));refine Zu (v:=Zb false) J (no_geB J J J (ilt_yes (by simp only [Int.ofNat_eq_natCast];omega))) rfl ?_;refine Zg (Z6 J (Ya (Yh (Za 6 [0] [(11,Zq mc 0),(14,Zn (hp+1)),(16,Zi 1)] [] (Zu (v:=Zn hp) J (Qw (p:=hp+1) (q:=1) J J J (by omega) (by omega)) J ?_)))));refine Zy 3 [0] [] [] N [] [(0,Zc [m0,m1,m2,m3,m4,m5,m6,m7,m8,m9,m10,m11,m12,Zn hp,m14,m15,m16])] (Zx (Za 1 [] [(4,Zb true)] [] (Zg (Yc (Z5 [0] (.inr J) Zj J (by decide) ?_)))));exact ⟨J,J,J⟩
theorem Zcc (h:hp<=100000) (hl:cc.length=ln) (hbd:ln<=50000):HF Tryz.prog 214 [.ptr mc 0,.ptr f 0,.ptr c 0] N [(mc,.cells [m0,m1,m2,m3,m4,m5,m6,m7,m8,m9,m10,m11,m12,Zn (hp+1),m14,m15,m16]),(f,.cells [a0,a1,a2,a3,.sl s 0 ln 0,a5,a6]),(s,.row 366 1 ln cc),(c,.cells [k0,k1,k2,k3,k4,k5,k6,k7,k8,k9,Zz])] fun u N' H'=>∃ oj s1,u=Zp/\H'=[(mc,.cells [m0,m1,m2,m3,m4,m5,m6,m7,m8,m9,m10,m11,m12,Zn hp,m14,m15,m16]),(f,.cells [a0,a1,a2,a3,.sl s1 0 (ln+1) 0,a5,a6]),(s1,.row 366 1 (ln+1) (cc++[.ifc 244 (.ptr oj 0)])),(c,.cells [k0,k1,k2,k3,k4,k5,k6,k7,k8,k9,Zz]),(oj,.cells [.ptr c 0,Zz])]:=by
 refine hf1 Tryz.func214 J Tryz.ntmps214 fun _ _ _ _=>?_;refine Zd (Za 1 [] [(6,Zp)] [] (Z1 (Zd (Za 6 [3] [(7,Zq mc 0),(12,Zi 0)] [] (Z0 [0] [0] Zj J J J J (Jv h) J (Za 1 [] [(14,Zb false)] [] (Zg (Z6 J (Ya (Yh (Za 6 [3] [(17,Zq f 0),(18,Zq c 0),(22,Zz)] [] (Z0 [] [] Zj J J J J (Tf) J (Zy 3 [] [(26,SV.ifc 244 (Zq N 0))] [] (N+1) [(N,Zc [Zq c 0,Zz])] [] (Z0 [2,3] [3,2] Zj J J J J (Pp hl hbd) J (Zx (Za 1 [] [(6,Zp)] [] (Zg (Yc (Z5 [3,0,1,4,2] (.inr J) Zj J (by decide) ?_)))))))))))))))))));exact ⟨_,_,J,J⟩
theorem Zcd (h:hp<=100000):HF Tryz.prog 214 [.ptr mc 0,.ptr f 0,.ptr c 0] N [(mc,.cells [m0,m1,m2,m3,m4,m5,m6,m7,m8,m9,m10,m11,m12,Zn (hp+1),m14,m15,m16]),(f,.cells [a0,a1,a2,a3,Zz,a5,a6]),(c,.cells [k0,k1,k2,k3,k4,k5,k6,k7,k8,k9,Zz])] fun u N' H'=>∃ oj s1,u=Zp/\H'=[(mc,.cells [m0,m1,m2,m3,m4,m5,m6,m7,m8,m9,m10,m11,m12,Zn hp,m14,m15,m16]),(f,.cells [a0,a1,a2,a3,.sl s1 0 1 0,a5,a6]),(s1,.row 366 1 1 [.ifc 244 (.ptr oj 0)]),(c,.cells [k0,k1,k2,k3,k4,k5,k6,k7,k8,k9,Zz]),(oj,.cells [.ptr c 0,Zz])]:=by
 refine hf1 Tryz.func214 J Tryz.ntmps214 fun _ _ _ _=>?_;refine Zd (Za 1 [] [(6,Zp)] [] (Z1 (Zd (Za 6 [2] [(7,Zq mc 0),(12,Zi 0)] [] (Z0 [0] [0] Zj J J J J (Jv h) J (Za 1 [] [(14,Zb false)] [] (Zg (Z6 J (Ya (Yh (Za 6 [2] [(17,Zq f 0),(18,Zq c 0),(22,Zz)] [] (Z0 [] [] Zj J J J J (Tf) J (Zy 3 [] [(26,SV.ifc 244 (Zq N 0))] [] (N+1) [(N,Zc [Zq c 0,Zz])] [] (Z0 [2] [2] Zj J J J J (Ey) J (Zx (Za 1 [] [(6,Zp)] [] (Zg (Yc (Z5 [3,0,1,4,2] (.inr J) Zj J (by decide) ?_)))))))))))))))))));exact ⟨_,_,J,J⟩
theorem Ht {sr:Nat} (hl:cc.length=ln) (hbd:ln<=50000):HF Tryz.prog 218 [.ptr mc 0,.ptr f 0,.agg [.ptr c 0,Zi 0]] N [(f,.cells [a0,a1,a2,a3,.sl s 0 ln 0,a5,a6]),(s,.row 366 1 ln cc),(c,.cells [k0,k1,k2,k3,k4,k5,k6,k7,k8,.sl sr 0 1 0,k9]),(sr,.row 366 1 1 [.ifc 3 (Zi 0)])] fun u N' H'=>∃ s1,u=Zp/\H'=[(f,.cells [a0,a1,a2,a3,.sl s1 0 (ln+1) 0,a5,a6]),(s1,.row 366 1 (ln+1) (cc++[.ifc 3 (Zi 0)])),(c,.cells [k0,k1,k2,k3,k4,k5,k6,k7,k8,.sl sr 0 1 0,k9]),(sr,.row 366 1 1 [.ifc 3 (Zi 0)])]:=by
 refine hf1 Tryz.func218 J Tryz.ntmps218 fun _ _ _ _=>?_;refine Zd (Zy 2 [] [(5,Zq N 0),(6,Zp)] [] (N+1) [(N,Zc [Zq c 0,Zi 0])] [] (Z1 ?_))
 refine Y0 [.ptr f 0,.ptr N 0,.ptr c 0,.ptr c 0,.ptr c 9,.sl sr 0 1 0,.ptr N 1,Zi 0,.ptr sr 0,.ifc 3 (Zi 0),.tup []] [10] [(_,_)] [0,2,3,0,4] [] [] [] Yt
  ⟨fun _ _ _ _ _ _ _ kG=>Z0 [1,2] [2,1] Zj rfl rfl rfl rfl (Pp hl hbd) rfl kG,trivial⟩
  trivial rfl ?_
 refine Yh (Za 1 [] [(6,Zp)] [] (Zg (Yc (Z5 [0,1,3,4] (.inr J) Zj J (by decide) ?_))));exact ⟨_,J,J⟩
end
end S
namespace S
open Go Go.RowKit E
structure KF where
 (k0 k1 k2 k3 k4 k5 k6 k8 k9 k10:SV)
def KF.c (x:KF) (f:SV->SV) (fr:Nat):List SV:=[f x.k0,f x.k1,f x.k2,f x.k3,f x.k4,f x.k5,f x.k6,.sl fr 0 1 0,f x.k8,f x.k9,f x.k10]
abbrev refX (nb:ByteArray) (a:Option Addr) (b:Nat):SV:=.agg [Zs nb,Zs xS,Zl a b,Zi 1,Ze]
section
set_option maxRecDepth 100000
variable {N c fr bx ob:Nat} {x:KF} {nb:ByteArray} {qa:Option Addr} {qb:Nat}
theorem field_x:HF Tryz.prog 299 [.ptr c 0,refX nb qa qb,.ptr bx 0] N [(c,.cells (x.c id fr)),(fr,.row 380 5 1 Vf),(bx,.cells [Zb true])] fun u _ H'=>u=.ifc 384 (.agg [.ptr c 0,Zi 0])/\H'=[(c,.cells (x.c id fr)),(fr,.row 380 5 1 Vf),(bx,.cells [Zb true])]:=by
 have h:=Q1 (N:=N) (f:=299) (bs:=[c,fr,bx]) (Bs:=[.cells (x.c sh 1),.row 380 5 1 Vf,.cells [Zb true]]) (args:=[.ptr 0 0,refX nb qa qb,.ptr 2 0]) (v:=.ifc 384 (.agg [.ptr c 0,Zi 0])) 3000 (by as_aux_lemma=>kernel_rfl) rfl (Nat.le_of_ble_eq_true rfl);have h2:HF Tryz.prog 299 [.ptr c 0,refX nb qa qb,.ptr bx 0] N [(c,.cells (x.c (fun y=>ren (rho [c,fr,bx] N) (sh y)) fr)),(fr,.row 380 5 1 Vf),(bx,.cells [Zb true])] (fun u _ H'=>u=.ifc 384 (.agg [.ptr c 0,Zi 0])/\H'=[(c,.cells (x.c (fun y=>ren (rho [c,fr,bx] N) (sh y)) fr)),(fr,.row 380 5 1 Vf),(bx,.cells [Zb true])]):=h;rw [Vq (Nat.le_of_ble_eq_true rfl)] at h2;exact h2
theorem below_0:HF Tryz.prog 312 [.ptr ob 0,Zs (nmL 0)] N [(ob,obB)] fun u N' H'=>u=Zb false/\N'=N/\H'=[(ob,obB)] :=
 Xy (bs:=[ob]) (Bs:=[obB]) (args:=[.ptr 0 0,Zs (nmL 0)]) 3000 (by as_aux_lemma=>kernel_rfl) rfl (Nat.le_of_ble_eq_true rfl) (fun _ _=>rfl)
theorem below_1:HF Tryz.prog 312 [.ptr ob 0,Zs (nmL 1)] N [(ob,obB)] fun u N' H'=>u=Zb false/\N'=N/\H'=[(ob,obB)] :=
 Xy (bs:=[ob]) (Bs:=[obB]) (args:=[.ptr 0 0,Zs (nmL 1)]) 3000 (by as_aux_lemma=>kernel_rfl) rfl (Nat.le_of_ble_eq_true rfl) (fun _ _=>rfl)
theorem below_2:HF Tryz.prog 312 [.ptr ob 0,Zs (nmL 2)] N [(ob,obB)] fun u N' H'=>u=Zb false/\N'=N/\H'=[(ob,obB)] :=
 Xy (bs:=[ob]) (Bs:=[obB]) (args:=[.ptr 0 0,Zs (nmL 2)]) 3000 (by as_aux_lemma=>kernel_rfl) rfl (Nat.le_of_ble_eq_true rfl) (fun _ _=>rfl)
theorem below_3:HF Tryz.prog 312 [.ptr ob 0,Zs (nmL 3)] N [(ob,obB)] fun u N' H'=>u=Zb false/\N'=N/\H'=[(ob,obB)] :=
 Xy (bs:=[ob]) (Bs:=[obB]) (args:=[.ptr 0 0,Zs (nmL 3)]) 3000 (by as_aux_lemma=>kernel_rfl) rfl (Nat.le_of_ble_eq_true rfl) (fun _ _=>rfl)
theorem below_4:HF Tryz.prog 312 [.ptr ob 0,Zs (nmL 4)] N [(ob,obB)] fun u N' H'=>u=Zb false/\N'=N/\H'=[(ob,obB)] :=
 Xy (bs:=[ob]) (Bs:=[obB]) (args:=[.ptr 0 0,Zs (nmL 4)]) 3000 (by as_aux_lemma=>kernel_rfl) rfl (Nat.le_of_ble_eq_true rfl) (fun _ _=>rfl)
theorem below_5:HF Tryz.prog 312 [.ptr ob 0,Zs (nmL 5)] N [(ob,obB)] fun u N' H'=>u=Zb false/\N'=N/\H'=[(ob,obB)] :=
 Xy (bs:=[ob]) (Bs:=[obB]) (args:=[.ptr 0 0,Zs (nmL 5)]) 3000 (by as_aux_lemma=>kernel_rfl) rfl (Nat.le_of_ble_eq_true rfl) (fun _ _=>rfl)
theorem below_6:HF Tryz.prog 312 [.ptr ob 0,Zs (nmL 6)] N [(ob,obB)] fun u N' H'=>u=Zb false/\N'=N/\H'=[(ob,obB)] :=
 Xy (bs:=[ob]) (Bs:=[obB]) (args:=[.ptr 0 0,Zs (nmL 6)]) 3000 (by as_aux_lemma=>kernel_rfl) rfl (Nat.le_of_ble_eq_true rfl) (fun _ _=>rfl)
theorem below_7:HF Tryz.prog 312 [.ptr ob 0,Zs (nmL 7)] N [(ob,obB)] fun u N' H'=>u=Zb false/\N'=N/\H'=[(ob,obB)] :=
 Xy (bs:=[ob]) (Bs:=[obB]) (args:=[.ptr 0 0,Zs (nmL 7)]) 3000 (by as_aux_lemma=>kernel_rfl) rfl (Nat.le_of_ble_eq_true rfl) (fun _ _=>rfl)
theorem Ab:∀ k,k<8->HF Tryz.prog 312 [.ptr ob 0,Zs (nmL k)] N [(ob,obB)] fun u N' H'=>u=Zb false/\N'=N/\H'=[(ob,obB)]
 | 0,_=>below_0
 | 1,_=>below_1
 | 2,_=>below_2
 | 3,_=>below_3
 | 4,_=>below_4
 | 5,_=>below_5
 | 6,_=>below_6
 | 7,_=>below_7
 | k+8,h=>by omega
end
section
set_option maxRecDepth 10000
variable {N mc f s c ln ob oj k:Nat} {cc:List SV} {a0 a1 a2 a3 a5 a6 k1 k2 k3 k4 k5 k6 k7 k8 k9 k10:SV}
theorem Jk (hl:cc.length=ln) (hbd:ln+1<=50000):HF Tryz.prog 301 [.ptr f 0] N [(f,.cells [a0,a1,a2,a3,.sl s 0 (ln+1) 0,a5,a6]),(s,.row 366 1 (ln+1) (cc++[.ifc 244 (.ptr oj 0)]))] fun u N' H'=>u=.ptr oj 0/\N'=N/\H'=[(f,.cells [a0,a1,a2,a3,.sl s 0 ln 0,a5,a6]),(s,.row 366 1 ln cc)]:=by
 have ha:∀ N,HF Tryz.prog 304 [.ifc 244 (.ptr oj 0)] N [] fun u N' H'=>u=.ptr oj 0/\N'=N/\H'=[]:=fun N=>by
  refine hf1 Tryz.func304 J Tryz.ntmps304 fun _ _ _ _=>?_;refine Zd (Za 1 [] [(2,Zp)] [] (Z1 (Zd (Za 2 [] [(4,Zb false)] [] (Zg (Z6 J (Ya (Yh (Za 3 [] [(2,Zq oj 0)] [] (Zg (Yc (Z5 [] (.inr J) Zj J (by decide) ?_))))))))))));exact ⟨J,J,J⟩
 refine hf1 Tryz.func301 J Tryz.ntmps301 fun _ _ _ _=>?_;refine Zd (Za 1 [] [(2,Zp)] [] (Zx (Za 1 [] [(3,Zq f 0)] [] (Z0 [0,1] [1,0] Zj J J J J (R7 hl hbd) J (Z0 [] [] Zj J J J J (ha _) J (Za 1 [] [(2,Zq oj 0)] [] (Zg (Yc (Z5 [0,1] (.inr J) Zj J (by decide) ?_)))))))));exact ⟨J,J,J⟩
theorem is_row (hk:k<8) (hl:cc.length=ln) (hbd:ln+1<=50000):HF Tryz.prog 229 [.ptr mc 0,.ptr f 0,.ptr c 0] N [(f,.cells [a0,a1,a2,a3,.sl s 0 (ln+1) 0,a5,a6]),(s,.row 366 1 (ln+1) (cc++[.ifc 244 (.ptr oj 0)])),(oj,.cells [.ptr ob 0,Zz]),(ob,obB),(c,.cells [Zs (nmL k),k1,k2,k3,k4,k5,k6,k7,k8,k9,k10])] fun u N' H'=>∃ s1,u=Zp/\H'=[(f,.cells [a0,a1,a2,a3,.sl s1 0 (ln+1) 0,a5,a6]),(s1,.row 366 1 (ln+1) (cc++[.ifc 3 (Zi 0)])),(oj,.cells [.ptr ob 0,Zz]),(ob,obB),(c,.cells [Zs (nmL k),k1,k2,k3,k4,k5,k6,k7,k8,k9,k10])]:=by
 refine hf1 Tryz.func229 J Tryz.ntmps229 fun _ _ _ _=>?_;refine Zd (Za 1 [] [(6,Zp)] [] (Z1 (Z2 ?_)))
 refine Y0 [.ptr f 0,.ptr oj 0,.ptr oj 0,.ptr oj 0,.ptr ob 0,.ptr c 0,.ptr c 0,.ptr c 0,Zs (nmL k),Zb false] [1,9] [(_,_),(_,_)] [2,4,4] [(16,Zb false)] [] [] Yt
  ⟨fun _ _ _ _ _ _ _ kG=>Z0 [0,1] [1,0] Zj rfl rfl rfl rfl (Jk hl hbd) rfl kG,fun _ _ _ _ _ _ _ kG=>Z0 [3] [3] Zj rfl rfl rfl rfl (Ab k hk) rfl kG,trivial⟩
  trivial rfl ?_
 refine Zr (Z6 J (Ya (Yh (Za 2 [] [(20,Zq f 0),(21,SV.ifc 3 (Zi 0))] [] (Z0 [1,2] [2,1] Zj J J J J (Pp hl (by omega)) J ?_)))));refine Zx (Za 1 [] [(6,Zp)] [] (Zg (Yc (Z5 [0,1,3,2,4] (.inr J) Zj J (by decide) ?_))));exact ⟨_,J,J⟩
theorem J8 (hl:cc.length=ln) (hbd:ln+1<=50000):HF Tryz.prog 226 [.ptr f 0] N [(f,.cells [a0,a1,a2,a3,.sl s 0 (ln+1) 0,a5,a6]),(s,.row 366 1 (ln+1) (cc++[.ifc 244 (.ptr oj 0)]))] fun u N' H'=>u=Zb false/\N'=N/\H'=[(f,.cells [a0,a1,a2,a3,.sl s 0 (ln+1) 0,a5,a6]),(s,.row 366 1 (ln+1) (cc++[.ifc 244 (.ptr oj 0)]))]:=by
 have hd:∀ N,HF Tryz.prog 289 [.ptr f 0,Zi 0] N [(f,.cells [a0,a1,a2,a3,.sl s 0 (ln+1) 0,a5,a6]),(s,.row 366 1 (ln+1) (cc++[.ifc 244 (.ptr oj 0)]))] fun u N' H'=>u=.ifc 244 (.ptr oj 0)/\N'=N/\H'=[(f,.cells [a0,a1,a2,a3,.sl s 0 (ln+1) 0,a5,a6]),(s,.row 366 1 (ln+1) (cc++[.ifc 244 (.ptr oj 0)]))]:=fun N=>by
  refine hf1 Tryz.func289 J Tryz.ntmps289 fun _ _ _ _=>?_;refine Zd (Za 1 [] [(4,Zf)] [] (Z1 ?_))
  refine Y0 [.ptr f 0,.ptr f 0,.ptr f 4,.sl s 0 (ln+1) 0,.ptr f 0,.ptr f 0,.ptr f 4,.sl s 0 (ln+1) 0,Zn (ln+1),Zn ((ln+1) - 1),Zi 0,Zn (((ln+1) - 1) - 0),.ptr s (0+(((ln+1) - 1) - 0)*1),.ifc 244 (.ptr oj 0),.ifc 244 (.ptr oj 0)] [] [] [0,0] [(4,SV.ifc 244 (Zq oj 0))] [] [9,11,12,13] Yt
   trivial
   ⟨Y4 fun _ _=>Yl rfl (Qw rfl rfl rfl (by omega) (by omega)),Y4 fun _ _=>Yl rfl (Qw rfl rfl rfl (by omega) (by omega)),Y4 fun _ _=>Yl rfl (Xe rfl rfl rfl (by kernel_rfl) (by omega)),(Ys (fun _ hGG=>Z3 rfl rfl rfl (hGG.get (i:=1) rfl) (Xd (by kernel_rfl) (by subst hl;simp))) trivial),trivial⟩ rfl ?_
  refine Zr (Yc (Z5 [0,1] (.inr J) Zj J (by decide) ?_));exact ⟨J,J,J⟩
 refine hf1 Tryz.func226 J Tryz.ntmps226 fun _ _ _ _=>?_;refine Zd (Za 1 [] [(2,Zb false)] [] (Zx (Za 1 [] [(3,Zq f 0)] [] (Z0 [0,1] [1,0] Zj J J J J (hd _) J (Za 2 [] [(2,Zb false)] [] (Zg (Yc (Z5 [0,1] (.inr J) Zj J (by decide) ?_))))))));exact ⟨J,J,J⟩
end
end S
end Go.Proofs.YtpofmnfkdkmieaaGreat
