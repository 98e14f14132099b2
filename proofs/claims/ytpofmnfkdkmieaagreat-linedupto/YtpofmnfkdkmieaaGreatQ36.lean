/- What is proved here: Main waits for a class that starts nothi -/
import Derived.Test.YtpofmnfkdkmieaaGreatQ35
set_option linter.unusedVariables false
set_option linter.unusedSimpArgs false
namespace Go.Proofs.YtpofmnfkdkmieaaGreat
namespace S
open Go Go.RowKit E
section
variable {α:Type}
theorem pmH (m f u t c:α) (X:List α):([m,t,c]++([f,u]++X)).Perm (([m,f,u]++X)++[t,c]) :=
 List.Perm.cons m (List.perm_append_comm (l₁:=[t,c]) (l₂:=[f,u]++X))
theorem pmI (m f u t c v e n:α) (T B L K:List α):(([m,f]++(T++([v,u]++(L++([e,n]++(B++K))))))++[t,c]).Perm ([m,t,c]++([f,u]++(T++(B++([e,n,v]++(L++K)))))):=by
 have h1:(B++([e,n,v]++(L++(u::K)))).Perm ([v,u]++(L++([e,n]++(B++K)))):=by
  have h:=pm2 m B e n v L u K;rw [List.append_assoc] at h;exact (List.perm_cons m).1 h
 have h2:(T++([v,u]++(L++([e,n]++(B++K))))).Perm (u::(T++(B++([e,n,v]++(L++K))))):=(List.Perm.append_left T h1.symm).trans (pmU T B [e,n,v] L u K);have h3:([m,f]++(T++([v,u]++(L++([e,n]++(B++K)))))).Perm ([m,f,u]++(T++(B++([e,n,v]++(L++K))))):=List.Perm.append_left [m,f] h2;exact (h3.append_right [t,c]).trans (pmH m f u t c _).symm
end
section
set_option maxRecDepth 10000
variable {g:Lg} {w:Lw g} {r:List Mi} {k n0:Nat}
theorem new_wf (hg:g.Ok) (hT:TabL g.tab n0) (hw:w.Ok) (hk:k<8) (hd:g.ins.drop w.p=.new k::.pop::r) (hr:Body r) (hcc:w.cc=[]) (hsk:w.s<=k) (hb:g.bt w.s=false) :
  HF Tryz.prog 353 [.ptr g.x.mc 0] w.N (g.c.H 1 w.fp) fun u N' H'=>∃ w':Lw g,w'.Ok/\u=.tup []/\N'=w'.N/\H'=g.c.H 1 w'.fp/\w'.mu<w.mu:=by
 obtain ⟨hi,hlt,hd'⟩:=O8 hd;obtain ⟨N,un,dn,ev,ek,hp,s,sk,ln,p,evs,cc,code,ls,es,a1,tg⟩:=w;simp only at hd hcc hi hlt hd' hsk hb;subst hcc;have hln:ln=0:=hw.cl.symm;subst hln;have hn:=hw.totn;have he:=hw.tote;simp only [hd] at hn he;rw [Tn (.inl rfl) hsk] at hn;rw [Qa (.inl rfl),To (.inl rfl) (by omega) hsk] at he;have h1:=hw.evk;have h2:=hw.l8;have h3:=hw.sl;simp only at h1 h2 h3;have hek:ek<=10000:=by omega
 have key:∀ (code1:Hv g.bt g.x.ob k ls es->List SV) (tg1:Hv g.bt g.x.ob k ls es->Nat->SV),(∀ θ,CodeOk g.ins (tg1 θ) (code1 θ))->(∀ θ i,p<i->tg1 θ i=tg i)->(∀ θ,tg1 θ p=.ifc 323 (.agg [.ptr (cAt θ.ls' k) 0]))->(∀ θ,(code1 θ)[0+p*8+7]?=some (.ifc 323 (.agg [.ptr (cAt θ.ls' k) 0])))->(∀ N,HF Tryz.prog 395 [.ptr g.x.mc 0,.agg [.fn 213 [] [],.v .nilFunc,Zb true,.v .nilFunc,.fn 214 [] [],.v .nilFunc,.v .nilFunc],.ptr g.x.cd (0+p*8)] N ([(g.x.cd,.row 475 8 g.ins.length code)]++(bx2 g.b7 g.b8++(g.x.ml (.sl un 0 1 0) (Zn hp)).H g.bt ev ek evs es (lnB g.x.ob ls))) fun u N' H'=>∃ θ:Hv g.bt g.x.ob k ls es,u=.tup []/\N'=θ.n/\H'=[(g.x.cd,.row 475 8 g.ins.length (code1 θ))]++(bx2 g.b7 g.b8++(g.x.ml (.sl un 0 1 0) (Zn hp)).H g.bt θ.ev (ek+(k+1 - ls.length)) (evs++Ye (k+1 - ls.length) k) θ.es' (lnB g.x.ob θ.ls')))->HF Tryz.prog 353 [.ptr g.x.mc 0] N (g.c.H 1 (Lw.fp (g:=g) ⟨N,un,dn,ev,ek,hp,s,sk,0,p,evs,[],code,ls,es,a1,tg⟩)) fun u N' H'=>∃ w':Lw g,w'.Ok/\u=.tup []/\N'=w'.N/\H'=g.c.H 1 w'.fp/\w'.mu<Lw.mu (g:=g) ⟨N,un,dn,ev,ek,hp,s,sk,0,p,evs,[],code,ls,es,a1,tg⟩:=by
  intro code1 tg1 hC1 htg htp hcode hL;have h:=Nk g.x (N:=N) (un:=un) (p:=p) (q:=g.ins.length) (op:=15) (s:=s) (ev:=ev) (ek:=ek) (evs:=evs) (hv:=Zn hp) (a1:=a1) (a3:=.sl g.lo 0 1 0) (a4:=.sl sk 0 0 0) (code:=code) (tab:=g.tab) (g:=213) (cap:=[]) (e0:=g.e0) (e1:=g.e1) (e2:=g.e2) (e3:=g.e3) (e4:=g.e4) (e5:=g.e5) (e6:=g.e6) (e7:=g.e7) (e8:=g.e8) (e9:=g.e9) (B:=bx2 g.b7 g.b8) (K:=[(sk,Zw 366 1 0 []),(g.oj,.cells [.ptr g.x.ob 0,Zz]),(g.lo,.row 366 1 1 [.ifc 244 (.ptr g.oj 0)])]) hw.stt hw.sl hsk hk hw.l8 hb hw.evl (by omega) hlt hg.q (hw.code.op p _ hi) (by decide) rfl rfl rfl rfl hT.new hcode hL;simp only [Lm.M,hg.m16] at h;refine HF.permR (HF.conv (K:=[(g.x.mt,.cells [Zi g.fu,Zn dn,.ch g.ch]),(g.ch,.chan 1 0)]) h (pmH _ _ _ _ _ _)) ?_;rintro u N' H' ⟨H1,⟨⟨⟨θ,ζ⟩,hu⟩,rfl,rfl⟩,hpm⟩;have hlen:=θ.g.len;have hul:=hu.len;refine ⟨_,hpm.symm.trans (pmI _ _ _ _ _ _ _ _ _ _ _ _),⟨N',un,dn,ζ.ev,ek+(k+1 - ls.length)+1+1,hp,s+1,sk,0,p,(evs++Ye (k+1 - ls.length) k)++evS s++evE s,[],code1 θ,ζ.ls',θ.es',Zn p,tg1 θ⟩,?_,J,J,J,?_⟩
  ·have hnm:NmOk g.x.ob θ.es' ζ.ls':=⟨θ.g.ok.top,fun j hj=>by rw [hu.cat];exact θ.g.ok.at_ j (by rw [<- hul];exact hj)⟩;refine ⟨hu.wf,hnm,fun j hj hj8=>θ.g.hno hk hw.no j (by rw [<- hul];exact hj) hj8,by simp only at hul ⊢;omega,hu.stt,by simp only at hul ⊢;omega,?_,by simp only at hul ⊢;omega,hC1 θ,fun i h1 h2=>?_,fun m hm=>?_,rfl,?_,?_,?_,hw.room,hw.hpb⟩
   ·have:=hw.evl;simp only at this ⊢;simp only [List.length_append,X9,this];show ek*3+(k+1 - ls.length)*3+3+3=_;omega
   ·exact (htg θ i h1).trans (hw.later i h1 h2)
   ·simp only at hm;rw [hi] at hm;cases hm;simp only;rw [htp θ];exact Or.inr ⟨by simp only at hul;omega,by rw [hu.cat]⟩
   ·simp only;rw [hd];exact .body (.new hk hr)
   ·simp only at hul ⊢;rw [hd,hul,hlen,<- he];simp only [Sa,hb,List.append_assoc];rfl
   ·simp only;rw [hd];simp only [stN,hb] at hn;rw [<- hn];simp
  ·simp only [Lw.mu];omega
 rcases hw.here _ hi with ht | ⟨hkl,ht⟩
 ·simp only at ht;obtain ⟨qa,qb,hrf⟩:=hw.code.ref p _ hi;refine key (fun θ=>sput code (0+p*8+7) [.ifc 323 (.agg [.ptr (cAt θ.ls' k) 0])]) (fun θ=>V4 tg p (.ifc 323 (.agg [.ptr (cAt θ.ls' k) 0]))) (fun θ=>hw.code.put hlt _) (fun θ i h=>by unfold V4;rw [if_neg (by omega)]) (fun θ=>by unfold V4;rw [if_pos rfl]) (fun θ=>hw.code.put_at hlt _) fun N=>?_;exact Kg (g.x.ml (.sl un 0 1 0) (Zn hp)) hk hw.wf hw.nm hw.no hw.evl hek hlt hg.q J J J J J J hw.code.len (by rw [hw.code.tgt p hlt];exact congrArg some ht) hrf J J J J
 ·simp only at ht hkl;refine key (fun _=>code) (fun _=>tg) (fun _=>hw.code) (fun _ _ _=>J) (fun θ=>by rw [θ.g.same hkl];exact ht) (fun θ=>by rw [hw.code.tgt p hlt,θ.g.same hkl];exact congrArg some ht) fun N=>?_;exact Q8 (g.x.ml (.sl un 0 1 0) (Zn hp)) hw.wf hw.nm hkl hlt hg.q J J J J J J (by rw [hw.code.tgt p hlt];exact congrArg some ht)
theorem get_wf (hg:g.Ok) (hT:TabL g.tab n0) (hb8:g.b8=n0+8) (hw:w.Ok) (hk:k<8) (hd:g.ins.drop w.p=.get k::.pop::r) (hr:Body r) (hcc:w.cc=[]) (hsk:w.s<=k) (hb:g.bt w.s=false) :
  HF Tryz.prog 353 [.ptr g.x.mc 0] w.N (g.c.H 1 w.fp) fun u N' H'=>∃ w':Lw g,w'.Ok/\u=.tup []/\N'=w'.N/\H'=g.c.H 1 w'.fp/\w'.mu<w.mu:=by
 obtain ⟨hi,hlt,hd'⟩:=O8 hd;obtain ⟨N,un,dn,ev,ek,hp,s,sk,ln,p,evs,cc,code,ls,es,a1,tg⟩:=w;simp only at hd hcc hi hlt hd' hsk hb;subst hcc;have hln:ln=0:=hw.cl.symm;subst hln;have hn:=hw.totn;have he:=hw.tote;simp only [hd] at hn he;rw [Tn (.inr rfl) hsk] at hn;rw [Qa (.inr rfl),To (.inr rfl) (by omega) hsk] at he;have h1:=hw.evk;have h2:=hw.l8;have h3:=hw.sl;simp only at h1 h2 h3;have hek:ek<=10000:=by omega
 have key:∀ (code1:Hv g.bt g.x.ob k ls es->List SV) (tg1:Hv g.bt g.x.ob k ls es->Nat->SV),(∀ θ,CodeOk g.ins (tg1 θ) (code1 θ))->(∀ θ i,p<i->tg1 θ i=tg i)->(∀ θ,tg1 θ p=.ifc 384 (.agg [.ptr (cAt θ.ls' k) 0,Zi 0]))->(∀ θ,(code1 θ)[0+p*8+7]?=some (.ifc 384 (.agg [.ptr (cAt θ.ls' k) 0,Zi 0])))->(∀ N,HF Tryz.prog 395 [.ptr g.x.mc 0,.agg [.fn 346 [] [.ptr g.b8 0],.v .nilFunc,Zb true,.v .nilFunc,.v .nilFunc,.fn 218 [] [],.v .nilFunc],.ptr g.x.cd (0+p*8)] N ([(g.x.cd,.row 475 8 g.ins.length code)]++(bx2 g.b7 g.b8++(g.x.ml (.sl un 0 1 0) (Zn hp)).H g.bt ev ek evs es (lnB g.x.ob ls))) fun u N' H'=>∃ θ:Hv g.bt g.x.ob k ls es,u=.tup []/\N'=θ.n/\H'=[(g.x.cd,.row 475 8 g.ins.length (code1 θ))]++(bx2 g.b7 g.b8++(g.x.ml (.sl un 0 1 0) (Zn hp)).H g.bt θ.ev (ek+(k+1 - ls.length)) (evs++Ye (k+1 - ls.length) k) θ.es' (lnB g.x.ob θ.ls')))->HF Tryz.prog 353 [.ptr g.x.mc 0] N (g.c.H 1 (Lw.fp (g:=g) ⟨N,un,dn,ev,ek,hp,s,sk,0,p,evs,[],code,ls,es,a1,tg⟩)) fun u N' H'=>∃ w':Lw g,w'.Ok/\u=.tup []/\N'=w'.N/\H'=g.c.H 1 w'.fp/\w'.mu<Lw.mu (g:=g) ⟨N,un,dn,ev,ek,hp,s,sk,0,p,evs,[],code,ls,es,a1,tg⟩:=by
  intro code1 tg1 hC1 htg htp hcode hL;have h:=Ni g.x (N:=N) (un:=un) (p:=p) (q:=g.ins.length) (op:=18) (s:=s) (ev:=ev) (ek:=ek) (evs:=evs) (hv:=Zn hp) (a1:=a1) (a3:=.sl g.lo 0 1 0) (a4:=.sl sk 0 0 0) (code:=code) (tab:=g.tab) (g:=346) (cap:=[.ptr g.b8 0]) (e0:=g.e0) (e1:=g.e1) (e2:=g.e2) (e3:=g.e3) (e4:=g.e4) (e5:=g.e5) (e6:=g.e6) (e7:=g.e7) (e8:=g.e8) (e9:=g.e9) (B:=bx2 g.b7 g.b8) (K:=[(sk,Zw 366 1 0 []),(g.oj,.cells [.ptr g.x.ob 0,Zz]),(g.lo,.row 366 1 1 [.ifc 244 (.ptr g.oj 0)])]) hw.stt hw.sl hsk hk hw.l8 hb hw.evl (by omega) hlt hg.q (hw.code.op p _ hi) (by decide) rfl rfl rfl rfl (by rw [hb8];exact hT.get) hcode hL;simp only [Lm.M,hg.m16] at h;refine HF.permR (HF.conv (K:=[(g.x.mt,.cells [Zi g.fu,Zn dn,.ch g.ch]),(g.ch,.chan 1 0)]) h (pmH _ _ _ _ _ _)) ?_;rintro u N' H' ⟨H1,⟨⟨⟨θ,ζ⟩,hu⟩,rfl,rfl⟩,hpm⟩;have hlen:=θ.g.len;have hul:=hu.len;refine ⟨_,hpm.symm.trans (pmI _ _ _ _ _ _ _ _ _ _ _ _),⟨N',un,dn,ζ.ev,ek+(k+1 - ls.length)+1+1,hp,s+1,sk,0,p,(evs++Ye (k+1 - ls.length) k)++evS s++evE s,[],code1 θ,ζ.ls',θ.es',Zn p,tg1 θ⟩,?_,J,J,J,?_⟩
  ·have hnm:NmOk g.x.ob θ.es' ζ.ls':=⟨θ.g.ok.top,fun j hj=>by rw [hu.cat];exact θ.g.ok.at_ j (by rw [<- hul];exact hj)⟩;refine ⟨hu.wf,hnm,fun j hj hj8=>θ.g.hno hk hw.no j (by rw [<- hul];exact hj) hj8,by simp only at hul ⊢;omega,hu.stt,by simp only at hul ⊢;omega,?_,by simp only at hul ⊢;omega,hC1 θ,fun i h1 h2=>?_,fun m hm=>?_,rfl,?_,?_,?_,hw.room,hw.hpb⟩
   ·have:=hw.evl;simp only at this ⊢;simp only [List.length_append,X9,this];show ek*3+(k+1 - ls.length)*3+3+3=_;omega
   ·exact (htg θ i h1).trans (hw.later i h1 h2)
   ·simp only at hm;rw [hi] at hm;cases hm;simp only;rw [htp θ];exact Or.inr ⟨by simp only at hul;omega,by rw [hu.cat]⟩
   ·simp only;rw [hd];exact .body (.get hk hr)
   ·simp only at hul ⊢;rw [hd,hul,hlen,<- he];simp only [Sa,hb,List.append_assoc];rfl
   ·simp only;rw [hd];simp only [stN,hb] at hn;rw [<- hn];simp
  ·simp only [Lw.mu];omega
 rcases hw.here _ hi with ht | ⟨hkl,ht⟩
 ·simp only at ht;obtain ⟨qa,qb,hrf⟩:=hw.code.ref p _ hi;refine key (fun θ=>sput code (0+p*8+7) [.ifc 384 (.agg [.ptr (cAt θ.ls' k) 0,Zi 0])]) (fun θ=>V4 tg p (.ifc 384 (.agg [.ptr (cAt θ.ls' k) 0,Zi 0]))) (fun θ=>hw.code.put hlt _) (fun θ i h=>by unfold V4;rw [if_neg (by omega)]) (fun θ=>by unfold V4;rw [if_pos rfl]) (fun θ=>hw.code.put_at hlt _) fun N=>?_;exact Zcf (g.x.ml (.sl un 0 1 0) (Zn hp)) hk hw.wf hw.nm (fun j h1 h2=>hw.no j h1 (by omega)) hw.evl (by omega) hlt hg.q J J J J J J hw.code.len (by rw [hw.code.tgt p hlt];exact congrArg some ht) hrf
 ·simp only at ht hkl;refine key (fun _=>code) (fun _=>tg) (fun _=>hw.code) (fun _ _ _=>J) (fun θ=>by rw [θ.g.same hkl];exact ht) (fun θ=>by rw [hw.code.tgt p hlt,θ.g.same hkl];exact congrArg some ht) fun N=>?_;exact Q7 (g.x.ml (.sl un 0 1 0) (Zn hp)) hw.wf hw.nm hkl hlt hg.q J J J J J J (by rw [hw.code.tgt p hlt];exact congrArg some ht)
end
end S
namespace S
open Go Go.RowKit E
section
variable {bt:Nat->Bool} {ob:Nat}
theorem Kj {ls pre r:List LP} {q:LP} (hl:ls=pre++q::r) (hb:q.b=true):∃ (sp:Nat) (K:Ch),(lnB ob ls).Perm ([(q.c,q.cB sp),(q.me,stB q.rc q.cd),(q.cd,.row 475 8 3 (Wd (Xx (.ofNat q.j)) 3))]++K):=by
 subst hl;obtain ⟨pb,pu,pj,c,fr,sr,mr,me,cd,rf,rc,rm⟩:=q;simp only at hb;subst hb;refine ⟨Xh ob r,[(mr,.row 329 1 1 [.ptr me 0]),(rf,.row 128 4 1 Yk),(rc,.row 75 7 3 (Xx (.ofNat pj)).flatten),(rm,Yy rc),(fr,.row 380 5 1 Vf),(sr,srB)]++(lnB ob r++prB (Xh ob (⟨true,pu,pj,c,fr,sr,mr,me,cd,rf,rc,rm⟩::r)) pre),?_⟩;rw [Wg];refine List.perm_append_comm.trans ?_;have h2:=Xz (H:=[(c,LP.cB ⟨true,pu,pj,c,fr,sr,mr,me,cd,rf,rc,rm⟩ (Xh ob r)),(mr,.row 329 1 1 [.ptr me 0]),(me,stB rc cd),(rf,.row 128 4 1 Yk),(rc,.row 75 7 3 (Xx (.ofNat pj)).flatten),(rm,Yy rc),(fr,.row 380 5 1 Vf),(sr,srB),(cd,.row 475 8 3 (Wd (Xx (.ofNat pj)) 3))]) (ds:=[0,1,2,3,4,5,6,7,8]) (is:=[0,2,8,1,3,4,5,6,7]) (by decide);exact h2.append_right (lnB ob r++prB (Xh ob (⟨true,pu,pj,c,fr,sr,mr,me,cd,rf,rc,rm⟩::r)) pre)
end
end S
namespace S
open Go Go.RowKit E
section
variable {α:Type}
theorem pmJ (m f u t c v e n z:α) (T B L K:List α):(([m,f]++(T++([v,u,z]++(L++([e,n]++(B++K))))))++[t,c]).Perm ([m,t,c]++([z,u]++([f]++(T++(B++([e,n,v]++(L++K))))))):=by
 have h1:(T++([v,u]++([z]++(L++([e,n]++(B++K)))))).Perm ([z]++(T++([v,u]++(L++([e,n]++(B++K)))))):=(List.Perm.append_left T (pmS [v,u] [z] _)).trans (pmS T [z] _);have h2:=(List.Perm.append_left [m,f] h1).append_right [t,c]
 have h3:(([m,f]++([z]++(T++([v,u]++(L++([e,n]++(B++K)))))))++[t,c]).Perm ([z]++(([m,f]++(T++([v,u]++(L++([e,n]++(B++K))))))++[t,c])):=by
  have:=(pmS [m,f] [z] (T++([v,u]++(L++([e,n]++(B++K)))))).append_right [t,c];exact this
 refine h2.trans (h3.trans ((List.Perm.append_left [z] (pmI m f u t c v e n T B L K)).trans ?_))
 have h4:([z,m,t,c,f,u]:List α).Perm [m,t,c,z,u,f]:=by
  have a:([z,m,t,c]:List α).Perm [m,t,c,z]:=List.perm_append_comm (l₁:=[z]) (l₂:=[m,t,c]);exact (a.append_right [f,u]).trans (List.Perm.append_left [m,t,c,z] (List.Perm.swap u f []))
 exact h4.append_right (T++(B++([e,n,v]++(L++K))))
end
def Ij (j:Nat):Nat->List SV
 | 0=>evP j++evE j
 | 1=>evP j++evE j
 | _=>evE j
def stkV (k2:Nat):Nat->SV
 | 0=>.v (.slice none 0 0)
 | 1=>.sl k2 0 1 0
 | _=>.sl k2 0 0 0
def stkB (k2 j:Nat):Nat->Ch
 | 0=>[]
 | 1=>[(k2,.row 366 1 1 [.ifc 3 (.v (.int .i64 (.ofNat j)))])]
 | _=>[(k2,.row 366 1 0 [])]
structure Lv (g:Lg) where
 (N un dn ev ek hp s sk p f2 k2 pos:Nat) (evs code:List SV) (ls:List LP) (es:List (ByteArray × SV)) (a1 b1 lo2:SV) (tg:Nat->SV) (q:LP)
structure Lv.Ok {g:Lg} (w:Lv g):Prop where
 wf:Wf g.bt w.ls
 nm:NmOk g.x.ob w.es w.ls
 no:∀ j,w.ls.length<=j->j<8->findS (nmL j) w.es=none
 l8:w.ls.length<=8
 stt:Stt w.s w.ls
 sl:w.s<=w.ls.length
 evl:w.evs.length=w.ek*3
 evk:w.ek+(2 - w.pos/2)<=3+w.ls.length+3*w.s
 code:CodeOk g.ins w.tg w.code
 later:∀ i,w.p<i->i<g.ins.length->w.tg i=.ifc 485 (.agg [])
 here:∀ m,g.ins[w.p]?=some m->TgAt w.ls m (w.tg w.p)
 at_:AtM g.oj (g.ins.drop w.p) []
 lt:w.p<g.ins.length
 pos:w.pos<=2
 qin:∃ pre r,w.ls=pre++w.q::r
 qb:w.q.b=true
 tote:w.evs++(Ij w.q.j w.pos++Xi g.bt (g.ins.drop w.p) w.ls.length w.s)=g.totE
 totn:w.dn+(3 - w.pos)+Y1 g.bt (g.ins.drop w.p) w.s=g.totN
 room:g.ins.length<=w.hp+w.p
 hpb:w.hp<=100000
abbrev Lv.R {g:Lg} (w:Lv g):Ch:=[(w.f2,Zc [.ptr w.q.me 0,w.b1,Zn w.pos,w.lo2,stkV w.k2 w.pos,.ptr w.q.c 0,Zp]),(w.un,.row 364 1 2 [.ptr g.x.f 0,.ptr w.f2 0])]++([(g.x.f,Zc [.ptr g.x.me 0,w.a1,Zn w.p,.sl g.lo 0 1 0,.sl w.sk 0 0 0,Zp,Zp])]++(g.T w.code++(bx2 g.b7 g.b8++([(g.x.en,Zw 89 2 9 (enC g.bt g.x.bm)),(g.x.nm,.map w.es),(w.ev,.row 98 3 w.ek w.evs)]++(lnB g.x.ob w.ls++([(w.sk,Zw 366 1 0 []),(g.oj,.cells [.ptr g.x.ob 0,Zz]),(g.lo,.row 366 1 1 [.ifc 244 (.ptr g.oj 0)])]++stkB w.k2 w.q.j w.pos))))))
def Lv.fp {g:Lg} (w:Lv g):FP:=⟨w.N,w.un,w.dn,.sl w.ev 0 w.ek 0,Zn w.hp,w.R⟩
def Lv.mu {g:Lg} (w:Lv g):Nat:=100*(g.ins.length - w.p)+10*(8 - w.s)+(3 - w.pos)
section
set_option maxRecDepth 10000
variable {g:Lg} {w:Lw g} {r:List Mi} {k n0:Nat}
theorem new_wt (hg:g.Ok) (hT:TabL g.tab n0) (hw:w.Ok) (hk:k<8) (hd:g.ins.drop w.p=.new k::.pop::r) (hr:Body r) (hcc:w.cc=[]) (hsk:w.s<=k) (hb:g.bt w.s=true) :
  HF Tryz.prog 353 [.ptr g.x.mc 0] w.N (g.c.H 1 w.fp) fun u N' H'=>∃ w':Lv g,w'.Ok/\u=.tup []/\N'=w'.N/\H'=g.c.H 2 w'.fp/\w'.mu<w.mu:=by
 obtain ⟨hi,hlt,hd'⟩:=O8 hd;obtain ⟨N,un,dn,ev,ek,hp,s,sk,ln,p,evs,cc,code,ls,es,a1,tg⟩:=w;simp only at hd hcc hi hlt hd' hsk hb;subst hcc;have hln:ln=0:=hw.cl.symm;subst hln;have hn:=hw.totn;have he:=hw.tote;simp only [hd] at hn he;rw [Tn (.inl rfl) hsk] at hn;rw [Qa (.inl rfl),To (.inl rfl) (by omega) hsk] at he;have h1:=hw.evk;have h2:=hw.l8;have h3:=hw.sl;simp only at h1 h2 h3;have hek:ek<=10000:=by omega
 have key:∀ (code1:Hv g.bt g.x.ob k ls es->List SV) (tg1:Hv g.bt g.x.ob k ls es->Nat->SV),(∀ θ,CodeOk g.ins (tg1 θ) (code1 θ))->(∀ θ i,p<i->tg1 θ i=tg i)->(∀ θ,tg1 θ p=.ifc 323 (.agg [.ptr (cAt θ.ls' k) 0]))->(∀ θ,(code1 θ)[0+p*8+7]?=some (.ifc 323 (.agg [.ptr (cAt θ.ls' k) 0])))->(∀ N,HF Tryz.prog 395 [.ptr g.x.mc 0,.agg [.fn 213 [] [],.v .nilFunc,Zb true,.v .nilFunc,.fn 214 [] [],.v .nilFunc,.v .nilFunc],.ptr g.x.cd (0+p*8)] N ([(g.x.cd,.row 475 8 g.ins.length code)]++(bx2 g.b7 g.b8++(g.x.ml (.sl un 0 1 0) (Zn hp)).H g.bt ev ek evs es (lnB g.x.ob ls))) fun u N' H'=>∃ θ:Hv g.bt g.x.ob k ls es,u=.tup []/\N'=θ.n/\H'=[(g.x.cd,.row 475 8 g.ins.length (code1 θ))]++(bx2 g.b7 g.b8++(g.x.ml (.sl un 0 1 0) (Zn hp)).H g.bt θ.ev (ek+(k+1 - ls.length)) (evs++Ye (k+1 - ls.length) k) θ.es' (lnB g.x.ob θ.ls')))->HF Tryz.prog 353 [.ptr g.x.mc 0] N (g.c.H 1 (Lw.fp (g:=g) ⟨N,un,dn,ev,ek,hp,s,sk,0,p,evs,[],code,ls,es,a1,tg⟩)) fun u N' H'=>∃ w':Lv g,w'.Ok/\u=.tup []/\N'=w'.N/\H'=g.c.H 2 w'.fp/\w'.mu<Lw.mu (g:=g) ⟨N,un,dn,ev,ek,hp,s,sk,0,p,evs,[],code,ls,es,a1,tg⟩:=by
  intro code1 tg1 hC1 htg htp hcode hL;have h:=Nj g.x (N:=N) (un:=un) (p:=p) (q:=g.ins.length) (op:=15) (s:=s) (ev:=ev) (ek:=ek) (evs:=evs) (hv:=Zn hp) (a1:=a1) (a3:=.sl g.lo 0 1 0) (a4:=.sl sk 0 0 0) (code:=code) (tab:=g.tab) (g:=213) (cap:=[]) (e0:=g.e0) (e1:=g.e1) (e2:=g.e2) (e3:=g.e3) (e4:=g.e4) (e5:=g.e5) (e6:=g.e6) (e7:=g.e7) (e8:=g.e8) (e9:=g.e9) (B:=bx2 g.b7 g.b8) (K:=[(sk,Zw 366 1 0 []),(g.oj,.cells [.ptr g.x.ob 0,Zz]),(g.lo,.row 366 1 1 [.ifc 244 (.ptr g.oj 0)])]) hw.stt hw.sl hsk hk hw.l8 hb hw.evl (by omega) hlt hg.q (hw.code.op p _ hi) (by decide) rfl rfl rfl rfl hT.new hcode hL;simp only [Lm.M,hg.m16] at h;refine HF.permR (HF.conv (K:=[(g.x.mt,.cells [Zi g.fu,Zn dn,.ch g.ch]),(g.ch,.chan 1 0)]) h (pmH _ _ _ _ _ _)) ?_;rintro u N' H' ⟨H1,⟨⟨⟨θ,ζ⟩,hu⟩,rfl,rfl⟩,hpm⟩;have hlen:=θ.g.len;have hul:=hu.len;refine ⟨_,hpm.symm.trans (pmJ _ _ _ _ _ _ _ _ _ _ _ _ _),⟨N',ζ.un,dn,ζ.ev,ek+(k+1 - ls.length)+1,hp,s+1,sk,p,ζ.f,0,0,(evs++Ye (k+1 - ls.length) k)++evS s,code1 θ,ζ.ls',θ.es',Zn p,Zi 0,ζ.lo,tg1 θ,ζ.q⟩,?_,J,J,J,?_⟩
  ·have hnm:NmOk g.x.ob θ.es' ζ.ls':=⟨θ.g.ok.top,fun j hj=>by rw [hu.cat];exact θ.g.ok.at_ j (by rw [<- hul];exact hj)⟩;refine ⟨hu.wf,hnm,fun j hj hj8=>θ.g.hno hk hw.no j (by rw [<- hul];exact hj) hj8,by simp only at hul ⊢;omega,hu.stt,by simp only at hul ⊢;omega,?_,by simp only at hul ⊢;omega,hC1 θ,fun i h1 h2=>?_,fun m hm=>?_,?_,hlt,by simp only;omega,hu.at_,by simp only;rw [hu.qb];exact hb,?_,?_,hw.room,hw.hpb⟩
   ·have:=hw.evl;simp only at this ⊢;simp only [List.length_append,X9,this];show ek*3+(k+1 - ls.length)*3+3=_;omega
   ·exact (htg θ i h1).trans (hw.later i h1 h2)
   ·simp only at hm;rw [hi] at hm;cases hm;simp only;rw [htp θ];exact Or.inr ⟨by simp only at hul;omega,by rw [hu.cat]⟩
   ·simp only;rw [hd];exact .body (.new hk hr)
   ·simp only at hul ⊢;rw [hd,hul,hlen,<- he,hu.qj];simp only [Sa,hb,Ij,List.append_assoc];rfl
   ·simp only;rw [hd];simp only [stN,hb] at hn;rw [<- hn];simp;omega
  ·simp only [Lw.mu,Lv.mu];omega
 rcases hw.here _ hi with ht | ⟨hkl,ht⟩
 ·simp only at ht;obtain ⟨qa,qb,hrf⟩:=hw.code.ref p _ hi;refine key (fun θ=>sput code (0+p*8+7) [.ifc 323 (.agg [.ptr (cAt θ.ls' k) 0])]) (fun θ=>V4 tg p (.ifc 323 (.agg [.ptr (cAt θ.ls' k) 0]))) (fun θ=>hw.code.put hlt _) (fun θ i h=>by unfold V4;rw [if_neg (by omega)]) (fun θ=>by unfold V4;rw [if_pos rfl]) (fun θ=>hw.code.put_at hlt _) fun N=>?_;exact Kg (g.x.ml (.sl un 0 1 0) (Zn hp)) hk hw.wf hw.nm hw.no hw.evl hek hlt hg.q J J J J J J hw.code.len (by rw [hw.code.tgt p hlt];exact congrArg some ht) hrf J J J J
 ·simp only at ht hkl;refine key (fun _=>code) (fun _=>tg) (fun _=>hw.code) (fun _ _ _=>J) (fun θ=>by rw [θ.g.same hkl];exact ht) (fun θ=>by rw [hw.code.tgt p hlt,θ.g.same hkl];exact congrArg some ht) fun N=>?_;exact Q8 (g.x.ml (.sl un 0 1 0) (Zn hp)) hw.wf hw.nm hkl hlt hg.q J J J J J J (by rw [hw.code.tgt p hlt];exact congrArg some ht)
theorem get_wt (hg:g.Ok) (hT:TabL g.tab n0) (hb8:g.b8=n0+8) (hw:w.Ok) (hk:k<8) (hd:g.ins.drop w.p=.get k::.pop::r) (hr:Body r) (hcc:w.cc=[]) (hsk:w.s<=k) (hb:g.bt w.s=true) :
  HF Tryz.prog 353 [.ptr g.x.mc 0] w.N (g.c.H 1 w.fp) fun u N' H'=>∃ w':Lv g,w'.Ok/\u=.tup []/\N'=w'.N/\H'=g.c.H 2 w'.fp/\w'.mu<w.mu:=by
 obtain ⟨hi,hlt,hd'⟩:=O8 hd;obtain ⟨N,un,dn,ev,ek,hp,s,sk,ln,p,evs,cc,code,ls,es,a1,tg⟩:=w;simp only at hd hcc hi hlt hd' hsk hb;subst hcc;have hln:ln=0:=hw.cl.symm;subst hln;have hn:=hw.totn;have he:=hw.tote;simp only [hd] at hn he;rw [Tn (.inr rfl) hsk] at hn;rw [Qa (.inr rfl),To (.inr rfl) (by omega) hsk] at he;have h1:=hw.evk;have h2:=hw.l8;have h3:=hw.sl;simp only at h1 h2 h3;have hek:ek<=10000:=by omega
 have key:∀ (code1:Hv g.bt g.x.ob k ls es->List SV) (tg1:Hv g.bt g.x.ob k ls es->Nat->SV),(∀ θ,CodeOk g.ins (tg1 θ) (code1 θ))->(∀ θ i,p<i->tg1 θ i=tg i)->(∀ θ,tg1 θ p=.ifc 384 (.agg [.ptr (cAt θ.ls' k) 0,Zi 0]))->(∀ θ,(code1 θ)[0+p*8+7]?=some (.ifc 384 (.agg [.ptr (cAt θ.ls' k) 0,Zi 0])))->(∀ N,HF Tryz.prog 395 [.ptr g.x.mc 0,.agg [.fn 346 [] [.ptr g.b8 0],.v .nilFunc,Zb true,.v .nilFunc,.v .nilFunc,.fn 218 [] [],.v .nilFunc],.ptr g.x.cd (0+p*8)] N ([(g.x.cd,.row 475 8 g.ins.length code)]++(bx2 g.b7 g.b8++(g.x.ml (.sl un 0 1 0) (Zn hp)).H g.bt ev ek evs es (lnB g.x.ob ls))) fun u N' H'=>∃ θ:Hv g.bt g.x.ob k ls es,u=.tup []/\N'=θ.n/\H'=[(g.x.cd,.row 475 8 g.ins.length (code1 θ))]++(bx2 g.b7 g.b8++(g.x.ml (.sl un 0 1 0) (Zn hp)).H g.bt θ.ev (ek+(k+1 - ls.length)) (evs++Ye (k+1 - ls.length) k) θ.es' (lnB g.x.ob θ.ls')))->HF Tryz.prog 353 [.ptr g.x.mc 0] N (g.c.H 1 (Lw.fp (g:=g) ⟨N,un,dn,ev,ek,hp,s,sk,0,p,evs,[],code,ls,es,a1,tg⟩)) fun u N' H'=>∃ w':Lv g,w'.Ok/\u=.tup []/\N'=w'.N/\H'=g.c.H 2 w'.fp/\w'.mu<Lw.mu (g:=g) ⟨N,un,dn,ev,ek,hp,s,sk,0,p,evs,[],code,ls,es,a1,tg⟩:=by
  intro code1 tg1 hC1 htg htp hcode hL;have h:=Nh g.x (N:=N) (un:=un) (p:=p) (q:=g.ins.length) (op:=18) (s:=s) (ev:=ev) (ek:=ek) (evs:=evs) (hv:=Zn hp) (a1:=a1) (a3:=.sl g.lo 0 1 0) (a4:=.sl sk 0 0 0) (code:=code) (tab:=g.tab) (g:=346) (cap:=[.ptr g.b8 0]) (e0:=g.e0) (e1:=g.e1) (e2:=g.e2) (e3:=g.e3) (e4:=g.e4) (e5:=g.e5) (e6:=g.e6) (e7:=g.e7) (e8:=g.e8) (e9:=g.e9) (B:=bx2 g.b7 g.b8) (K:=[(sk,Zw 366 1 0 []),(g.oj,.cells [.ptr g.x.ob 0,Zz]),(g.lo,.row 366 1 1 [.ifc 244 (.ptr g.oj 0)])]) hw.stt hw.sl hsk hk hw.l8 hb hw.evl (by omega) hlt hg.q (hw.code.op p _ hi) (by decide) rfl rfl rfl rfl (by rw [hb8];exact hT.get) hcode hL;simp only [Lm.M,hg.m16] at h;refine HF.permR (HF.conv (K:=[(g.x.mt,.cells [Zi g.fu,Zn dn,.ch g.ch]),(g.ch,.chan 1 0)]) h (pmH _ _ _ _ _ _)) ?_;rintro u N' H' ⟨H1,⟨⟨⟨θ,ζ⟩,hu⟩,rfl,rfl⟩,hpm⟩;have hlen:=θ.g.len;have hul:=hu.len;refine ⟨_,hpm.symm.trans (pmJ _ _ _ _ _ _ _ _ _ _ _ _ _),⟨N',ζ.un,dn,ζ.ev,ek+(k+1 - ls.length)+1,hp,s+1,sk,p,ζ.f,0,0,(evs++Ye (k+1 - ls.length) k)++evS s,code1 θ,ζ.ls',θ.es',Zn p,Zi 0,ζ.lo,tg1 θ,ζ.q⟩,?_,J,J,J,?_⟩
  ·have hnm:NmOk g.x.ob θ.es' ζ.ls':=⟨θ.g.ok.top,fun j hj=>by rw [hu.cat];exact θ.g.ok.at_ j (by rw [<- hul];exact hj)⟩;refine ⟨hu.wf,hnm,fun j hj hj8=>θ.g.hno hk hw.no j (by rw [<- hul];exact hj) hj8,by simp only at hul ⊢;omega,hu.stt,by simp only at hul ⊢;omega,?_,by simp only at hul ⊢;omega,hC1 θ,fun i h1 h2=>?_,fun m hm=>?_,?_,hlt,by simp only;omega,hu.at_,by simp only;rw [hu.qb];exact hb,?_,?_,hw.room,hw.hpb⟩
   ·have:=hw.evl;simp only at this ⊢;simp only [List.length_append,X9,this];show ek*3+(k+1 - ls.length)*3+3=_;omega
   ·exact (htg θ i h1).trans (hw.later i h1 h2)
   ·simp only at hm;rw [hi] at hm;cases hm;simp only;rw [htp θ];exact Or.inr ⟨by simp only at hul;omega,by rw [hu.cat]⟩
   ·simp only;rw [hd];exact .body (.get hk hr)
   ·simp only at hul ⊢;rw [hd,hul,hlen,<- he,hu.qj];simp only [Sa,hb,Ij,List.append_assoc];rfl
   ·simp only;rw [hd];simp only [stN,hb] at hn;rw [<- hn];simp;omega
  ·simp only [Lw.mu,Lv.mu];omega
 rcases hw.here _ hi with ht | ⟨hkl,ht⟩
 ·simp only at ht;obtain ⟨qa,qb,hrf⟩:=hw.code.ref p _ hi;refine key (fun θ=>sput code (0+p*8+7) [.ifc 384 (.agg [.ptr (cAt θ.ls' k) 0,Zi 0])]) (fun θ=>V4 tg p (.ifc 384 (.agg [.ptr (cAt θ.ls' k) 0,Zi 0]))) (fun θ=>hw.code.put hlt _) (fun θ i h=>by unfold V4;rw [if_neg (by omega)]) (fun θ=>by unfold V4;rw [if_pos rfl]) (fun θ=>hw.code.put_at hlt _) fun N=>?_;exact Zcf (g.x.ml (.sl un 0 1 0) (Zn hp)) hk hw.wf hw.nm (fun j h1 h2=>hw.no j h1 (by omega)) hw.evl (by omega) hlt hg.q J J J J J J hw.code.len (by rw [hw.code.tgt p hlt];exact congrArg some ht) hrf
 ·simp only at ht hkl;refine key (fun _=>code) (fun _=>tg) (fun _=>hw.code) (fun _ _ _=>J) (fun θ=>by rw [θ.g.same hkl];exact ht) (fun θ=>by rw [hw.code.tgt p hlt,θ.g.same hkl];exact congrArg some ht) fun N=>?_;exact Q7 (g.x.ml (.sl un 0 1 0) (Zn hp)) hw.wf hw.nm hkl hlt hg.q J J J J J J (by rw [hw.code.tgt p hlt];exact congrArg some ht)
end
end S
namespace S
open Go Go.RowKit E
section
variable {α:Type}
theorem pmV {mc mt ch f2 un f mem cdm tb b8 b7 en nm ev c me cd sk oj lo:α} {L K1:List α} (Q:List α) (h:L.Perm ([c,me,cd]++K1)):([mc,mt,ch]++([f2,un]++([f]++([mem,cdm,tb]++([b8,b7]++([en,nm,ev]++(L++([sk,oj,lo]++Q)))))))).Perm ([mc,f2,me,cd,tb,un,mt,ch]++(ev::c::(Q++([f,mem,cdm,b8,b7,en,nm,sk,oj,lo]++K1)))):=by
 have h1:(L++([sk,oj,lo]++Q)).Perm ([c,me,cd]++(Q++([sk,oj,lo]++K1))):=by
  have a1:=h.append_right ([sk,oj,lo]++Q);rw [List.append_assoc] at a1;refine a1.trans (List.Perm.append_left _ ?_);refine List.perm_append_comm.trans ?_;rw [List.append_assoc];exact pmS [sk,oj,lo] Q K1
 have h2:([mc,mt,ch,f2,un,f,mem,cdm,tb,b8,b7,en,nm,ev]++(L++([sk,oj,lo]++Q))).Perm ([mc,mt,ch,f2,un,f,mem,cdm,tb,b8,b7,en,nm,ev,c,me,cd]++(Q++([sk,oj,lo]++K1))):=List.Perm.append_left _ h1
 have h3:([mc,mt,ch,f2,un,f,mem,cdm,tb,b8,b7,en,nm,ev,c,me,cd]:List α).Perm ([mc,f2,me,cd,tb,un,mt,ch,ev,c]++[f,mem,cdm,b8,b7,en,nm]):=by
  have:=(show ([0,1,2,3,4,5,6,7,8,9,10,11,12,13,14,15,16]:List Nat).Perm [0,3,15,16,8,4,1,2,13,14,5,6,7,9,10,11,12] by decide).map fun i=>[mc,mt,ch,f2,un,f,mem,cdm,tb,b8,b7,en,nm,ev,c,me,cd].getD i mc;exact this
 refine h2.trans ((h3.append_right _).trans ?_);rw [List.append_assoc];exact List.Perm.append_left [mc,f2,me,cd,tb,un,mt,ch,ev,c] (pmS [f,mem,cdm,b8,b7,en,nm] Q ([sk,oj,lo]++K1))
end
section
set_option maxRecDepth 10000
variable {g:Lg} {w:Lv g}
theorem v_push (hg:g.Ok) (hw:w.Ok) (hp0:w.pos=0) :
  HF Tryz.prog 353 [.ptr g.x.mc 0] w.N (g.c.H 2 w.fp) fun u N' H'=>∃ w':Lv g,w'.Ok/\u=.tup []/\N'=w'.N/\H'=g.c.H 2 w'.fp/\w'.mu<w.mu:=by
 obtain ⟨N,un,dn,ev,ek,hp,s,sk,p,f2,k2,pos,evs,code,ls,es,a1,b1,lo2,tg,q⟩:=w;simp only at hp0;subst hp0;obtain ⟨pre,r,hq⟩:=hw.qin;obtain ⟨sp,K1,hl⟩:=Kj (ob:=g.x.ob) hq hw.qb;have hn:=hw.totn;have h1:=hw.evk;have h2:=hw.l8;have h3:=hw.sl;have h4:=hg.fu;have h5:=hg.tot;simp only at hn h1 h2 h3;refine HF.permR (HF.conv (K:=[]) (st_push (mc:=g.x.mc) (f:=f2) (me:=q.me) (cd:=q.cd) (tb:=g.x.tb) (N:=N) (un:=un) (mt:=g.x.mt) (ch:=g.ch) (cp:=1) (kc:=0) (dn:=dn) (fu:=g.fu) (c:=q.c) (rc:=q.rc) (ev:=ev) (ek:=ek) (wa:=g.wa) (ws:=g.ws) (wm:=g.wm) (a1:=b1) (lo:=lo2) (v0:=.ptr g.x.f 0) (m0:=.sl g.x.en 0 9 0) (m1:=g.x.m1) (m2:=g.x.m2) (m3:=g.x.m3) (m4:=g.x.m4) (m5:=Zi 2) (m6:=.fn 25 [] []) (m7:=.fn 18 [] []) (m9:=.mp g.x.nm) (m10:=Zz) (m13:=Zn hp) (m14:=g.x.m14) (m16:=Zp) (k1:=.ptr sp 0) (k2:=Zs (nmL q.j)) (k3:=Zs (spL q.j)) (k4:=.sl q.rf 0 1 0) (k5:=q.mR) (k6:=Zi (upI q.up)) (k7:=.sl q.fr 0 1 0) (k8:=q.mM) (k9:=.sl q.sr 0 1 0) (k10:=Zz) (tab:=g.tab) (evs:=evs) (j:=.ofNat q.j) (nb:=nmL q.j) (K:=[(g.x.f,Zc [.ptr g.x.me 0,a1,Zn p,.sl g.lo 0 1 0,.sl sk 0 0 0,Zp,Zp]),(g.x.me,Zc [g.e0,g.e1,g.e2,g.e3,g.e4,g.e5,g.e6,g.e7,g.e8,g.e9,.sl g.x.cd 0 g.ins.length 0]),(g.x.cd,.row 475 8 g.ins.length code),(g.b8,.cells [.fn 299 [] [.ptr g.b7 0]]),(g.b7,.cells [Zb true]),(g.x.en,Zw 89 2 9 (enC g.bt g.x.bm)),(g.x.nm,.map es),(sk,Zw 366 1 0 []),(g.oj,.cells [.ptr g.x.ob 0,Zz]),(g.lo,.row 366 1 1 [.ifc 244 (.ptr g.oj 0)])]++K1) hg.tab (by omega) (by omega)) ?_) ?_
 ·rw [List.append_nil];exact pmV [] hl
 ·rintro u N' H' ⟨H1,⟨s1,rfl,rfl⟩,hpm⟩;rw [List.append_nil] at hpm;refine ⟨_,hpm.symm.trans (pmV [(s1,Zw 366 1 1 [.ifc 3 (Zn q.j)])] hl).symm,⟨N',un,dn+1,ev,ek,hp,s,sk,p,f2,s1,1,evs,code,ls,es,a1,Zi 0,lo2,tg,q⟩,?_,J,J,J,?_⟩
  ·exact ⟨hw.wf,hw.nm,hw.no,hw.l8,hw.stt,hw.sl,hw.evl,by simp only;omega,hw.code,hw.later,hw.here,hw.at_,hw.lt,by simp only;omega,hw.qin,hw.qb,hw.tote,by simp only;omega,hw.room,hw.hpb⟩
  ·simp only [Lv.mu];omega
theorem v_print (hg:g.Ok) (hw:w.Ok) (hp0:w.pos=1) :
  HF Tryz.prog 353 [.ptr g.x.mc 0] w.N (g.c.H 2 w.fp) fun u N' H'=>∃ w':Lv g,w'.Ok/\u=.tup []/\N'=w'.N/\H'=g.c.H 2 w'.fp/\w'.mu<w.mu:=by
 obtain ⟨N,un,dn,ev,ek,hp,s,sk,p,f2,k2,pos,evs,code,ls,es,a1,b1,lo2,tg,q⟩:=w;simp only at hp0;subst hp0;obtain ⟨pre,r,hq⟩:=hw.qin;obtain ⟨sp,K1,hl⟩:=Kj (ob:=g.x.ob) hq hw.qb;have hn:=hw.totn;have h1:=hw.evk;have h2:=hw.l8;have h3:=hw.sl;have h4:=hg.fu;have h5:=hg.tot;simp only at hn h1 h2 h3;refine HF.permR (HF.conv (K:=[]) (Zab (mc:=g.x.mc) (f:=f2) (me:=q.me) (cd:=q.cd) (tb:=g.x.tb) (N:=N) (un:=un) (mt:=g.x.mt) (ch:=g.ch) (cp:=1) (kc:=0) (dn:=dn) (fu:=g.fu) (c:=q.c) (rc:=q.rc) (ev:=ev) (ek:=ek) (wa:=g.wa) (ws:=g.ws) (wm:=g.wm) (a1:=b1) (lo:=lo2) (v0:=.ptr g.x.f 0) (m0:=.sl g.x.en 0 9 0) (m1:=g.x.m1) (m2:=g.x.m2) (m3:=g.x.m3) (m4:=g.x.m4) (m5:=Zi 2) (m6:=.fn 25 [] []) (m7:=.fn 18 [] []) (m9:=.mp g.x.nm) (m10:=Zz) (m13:=Zn hp) (m14:=g.x.m14) (m16:=Zp) (k1:=.ptr sp 0) (k2:=Zs (nmL q.j)) (k3:=Zs (spL q.j)) (k4:=.sl q.rf 0 1 0) (k5:=q.mR) (k6:=Zi (upI q.up)) (k7:=.sl q.fr 0 1 0) (k8:=q.mM) (k9:=.sl q.sr 0 1 0) (k10:=Zz) (tab:=g.tab) (evs:=evs) (j:=.ofNat q.j) (nb:=nmL q.j) (K:=[(g.x.f,Zc [.ptr g.x.me 0,a1,Zn p,.sl g.lo 0 1 0,.sl sk 0 0 0,Zp,Zp]),(g.x.me,Zc [g.e0,g.e1,g.e2,g.e3,g.e4,g.e5,g.e6,g.e7,g.e8,g.e9,.sl g.x.cd 0 g.ins.length 0]),(g.x.cd,.row 475 8 g.ins.length code),(g.b8,.cells [.fn 299 [] [.ptr g.b7 0]]),(g.b7,.cells [Zb true]),(g.x.en,Zw 89 2 9 (enC g.bt g.x.bm)),(g.x.nm,.map es),(sk,Zw 366 1 0 []),(g.oj,.cells [.ptr g.x.ob 0,Zz]),(g.lo,.row 366 1 1 [.ifc 244 (.ptr g.oj 0)])]++K1) (s:=k2) hg.tab (by omega) (by omega) hw.evl (by omega)) ?_) ?_
 ·rw [List.append_nil];exact pmV [(k2,Zw 366 1 1 [.ifc 3 (Zn q.j)])] hl
 ·rintro u N' H' ⟨H1,⟨ev1,rfl,rfl⟩,hpm⟩;rw [List.append_nil] at hpm;refine ⟨_,hpm.symm.trans (pmV [(k2,Zw 366 1 0 [])] hl).symm,⟨N',un,dn+1,ev1,ek+1,hp,s,sk,p,f2,k2,2,evs++evP q.j,code,ls,es,a1,Zi 1,lo2,tg,q⟩,?_,J,J,J,?_⟩
  ·exact ⟨hw.wf,hw.nm,hw.no,hw.l8,hw.stt,hw.sl,(by have:=hw.evl;simp only at this ⊢;rw [List.length_append,this];show ek*3+3=_;omega),by simp only;omega,hw.code,hw.later,hw.here,hw.at_,hw.lt,by simp only;omega,hw.qin,hw.qb,(by have:=hw.tote;simp only [Ij] at this ⊢;rw [List.append_assoc,<- List.append_assoc (evP q.j)];exact this),by simp only;omega,hw.room,hw.hpb⟩
  ·simp only [Lv.mu];omega
end
end S
namespace S
open Go Go.RowKit E
section
variable {α:Type}
theorem pmW (m t c z u f:α) (T B E L S Q:List α):([m,t,c]++([z,u]++([f]++(T++(B++(E++(L++(S++Q)))))))).Perm (([m,t,c]++([f,u]++(T++(B++(E++(L++S))))))++([z]++Q)):=by
 have e:T++(B++(E++(L++(S++Q))))=(T++(B++(E++(L++S))))++Q:=by simp only [List.append_assoc]
 rw [e];have h1:([z,u,f]:List α).Perm [f,u,z]:=(List.Perm.cons z (List.Perm.swap f u [])).trans ((List.Perm.swap f z [u]).trans (List.Perm.cons f (List.Perm.swap u z [])));have h2:=h1.append_right ((T++(B++(E++(L++S))))++Q);have h3:([f,u]++([z]++((T++(B++(E++(L++S))))++Q))).Perm ([f,u]++((T++(B++(E++(L++S))))++([z]++Q))):=List.Perm.append_left _ (pmS [z] _ Q);have h4:=List.Perm.append_left [m,t,c] (h2.trans h3);have e2:([m,t,c]++([f,u]++(T++(B++(E++(L++S))))))++([z]++Q)=[m,t,c]++([f,u]++((T++(B++(E++(L++S))))++([z]++Q))):=by rw [List.append_assoc,List.append_assoc]
 rw [e2];exact h4
end
section
set_option maxRecDepth 10000
variable {g:Lg} {w:Lv g}
theorem v_back (hg:g.Ok) (hw:w.Ok) (hp0:w.pos=2) :
  HF Tryz.prog 353 [.ptr g.x.mc 0] w.N (g.c.H 2 w.fp) fun u N' H'=>∃ w':Lw g,w'.Ok/\u=.tup []/\N'=w'.N/\H'=g.c.H 1 w'.fp/\w'.mu<w.mu:=by
 obtain ⟨N,un,dn,ev,ek,hp,s,sk,p,f2,k2,pos,evs,code,ls,es,a1,b1,lo2,tg,q⟩:=w;simp only at hp0;subst hp0;obtain ⟨pre,r,hq⟩:=hw.qin;obtain ⟨sp,K1,hl⟩:=Kj (ob:=g.x.ob) hq hw.qb;have hn:=hw.totn;have h1:=hw.evk;have h2:=hw.l8;have h3:=hw.sl;have h4:=hg.fu;have h5:=hg.tot;simp only at hn h1 h2 h3;refine HF.gone (HF.conv (K:=[]) (st_back (mc:=g.x.mc) (f:=f2) (me:=q.me) (cd:=q.cd) (tb:=g.x.tb) (N:=N) (un:=un) (mt:=g.x.mt) (ch:=g.ch) (cp:=1) (kc:=0) (dn:=dn) (fu:=g.fu) (c:=q.c) (rc:=q.rc) (ev:=ev) (ek:=ek) (wa:=g.wa) (ws:=g.ws) (wm:=g.wm) (a1:=b1) (lo:=lo2) (v0:=.ptr g.x.f 0) (m0:=.sl g.x.en 0 9 0) (m1:=g.x.m1) (m2:=g.x.m2) (m3:=g.x.m3) (m4:=g.x.m4) (m5:=Zi 2) (m6:=.fn 25 [] []) (m7:=.fn 18 [] []) (m9:=.mp g.x.nm) (m10:=Zz) (m13:=Zn hp) (m14:=g.x.m14) (m16:=Zp) (k1:=.ptr sp 0) (k2:=Zs (nmL q.j)) (k3:=Zs (spL q.j)) (k4:=.sl q.rf 0 1 0) (k5:=q.mR) (k6:=Zi (upI q.up)) (k7:=.sl q.fr 0 1 0) (k8:=q.mM) (k9:=.sl q.sr 0 1 0) (k10:=Zz) (tab:=g.tab) (evs:=evs) (j:=.ofNat q.j) (nb:=nmL q.j) (s:=k2) (K:=[(k2,Zw 366 1 0 [])]++([(g.x.f,Zc [.ptr g.x.me 0,a1,Zn p,.sl g.lo 0 1 0,.sl sk 0 0 0,Zp,Zp]),(g.x.me,Zc [g.e0,g.e1,g.e2,g.e3,g.e4,g.e5,g.e6,g.e7,g.e8,g.e9,.sl g.x.cd 0 g.ins.length 0]),(g.x.cd,.row 475 8 g.ins.length code),(g.b8,.cells [.fn 299 [] [.ptr g.b7 0]]),(g.b7,.cells [Zb true]),(g.x.en,Zw 89 2 9 (enC g.bt g.x.bm)),(g.x.nm,.map es),(sk,Zw 366 1 0 []),(g.oj,.cells [.ptr g.x.ob 0,Zz]),(g.lo,.row 366 1 1 [.ifc 244 (.ptr g.oj 0)])]++K1)) hg.tab (by omega) (by omega) hw.evl (by omega)) ?_) ?_
 ·rw [List.append_nil];exact pmV [(k2,Zw 366 1 0 [])] hl
 ·rintro u N' H' ⟨H1,⟨ev1,rfl,rfl⟩,hpm⟩;rw [List.append_nil] at hpm;refine ⟨_,_,(hpm.symm.trans (pmV [(k2,Zw 366 1 0 [])] hl).symm).trans (pmW _ _ _ _ _ _ [_,_,_] [_,_] [_,_,_] _ [_,_,_] _),⟨N',un,dn+1,ev1,ek+1,hp,s,sk,0,p,evs++evE q.j,[],code,ls,es,a1,tg⟩,?_,J,J,J,?_⟩
  ·exact ⟨hw.wf,hw.nm,hw.no,hw.l8,hw.stt,hw.sl,(by have:=hw.evl;simp only at this ⊢;rw [List.length_append,this];show ek*3+3=_;omega),by simp only;omega,hw.code,hw.later,hw.here,rfl,hw.at_,(by have:=hw.tote;simp only [Ij] at this ⊢;rw [List.append_assoc];exact this),by simp only;omega,hw.room,hw.hpb⟩
  ·simp only [Lv.mu,Lw.mu];omega
end
end S
namespace S
open Go Go.RowKit E
structure Lz (g:Lg) where
 (N un ev ek hp:Nat) (R:Ch) (le:g.totE.length=ek*3)
def Lz.fp {g:Lg} (z:Lz g):FP:=⟨z.N,z.un,g.totN,.sl z.ev 0 z.ek 0,Zn z.hp,[(z.ev,.row 98 3 z.ek g.totE)]++z.R⟩
abbrev LwO (g:Lg):={w:Lw g // w.Ok}
abbrev LvO (g:Lg):={w:Lv g // w.Ok}
abbrev FgL (g:Lg):=Fg (LwO g) (LvO g) (Lz g)
section
set_option maxRecDepth 10000
variable {g:Lg} {n0:Nat}
abbrev e1 (g:Lg):LwO g->FP:=fun w=>w.1.fp
abbrev e2 (g:Lg):LvO g->FP:=fun w=>w.1.fp
abbrev e0 (g:Lg):Lz g->FP:=Lz.fp
theorem C6 (hg:g.Ok) (hT:TabL g.tab n0) (hb8:g.b8=n0+8) (w:LwO g):HF Tryz.prog 353 [.ptr g.x.mc 0] (e1 g w).nn (g.c.H 1 (e1 g w)) fun u N' H'=>∃ s:FgL g,u=.tup []/\N'=(s.d (e1 g) (e2 g) (e0 g)).nn/\H'=s.hh g.c (e1 g) (e2 g) (e0 g)/\s.mu (fun w=>w.1.mu) (fun w=>w.1.mu)<w.1.mu:=by
 obtain ⟨w,hw⟩:=w
 have up1:∀ {R:SV->Nat->Ch->Prop},(∀ u N' H',R u N' H'->∃ w':Lw g,w'.Ok/\u=.tup []/\N'=w'.N/\H'=g.c.H 1 w'.fp/\w'.mu<w.mu)->∀ u N' H',R u N' H'->∃ s:FgL g,u=.tup []/\N'=(s.d (e1 g) (e2 g) (e0 g)).nn/\H'=s.hh g.c (e1 g) (e2 g) (e0 g)/\s.mu (fun w=>w.1.mu) (fun w=>w.1.mu)<w.mu :=
  fun hR u N' H' h=>let ⟨w',h1,h2,h3,h4,h5⟩:=hR u N' H' h;⟨.one ⟨w',h1⟩,h2,h3,h4,h5⟩
 have up2:∀ (u:SV) (N':Nat) (H':Ch),(∃ w':Lv g,w'.Ok/\u=.tup []/\N'=w'.N/\H'=g.c.H 2 w'.fp/\w'.mu<w.mu)->∃ s:FgL g,u=.tup []/\N'=(s.d (e1 g) (e2 g) (e0 g)).nn/\H'=s.hh g.c (e1 g) (e2 g) (e0 g)/\s.mu (fun w=>w.1.mu) (fun w=>w.1.mu)<w.mu :=
  fun u N' H' ⟨w',h1,h2,h3,h4,h5⟩=>⟨.two ⟨w',h1⟩,h2,h3,h4,h5⟩
 have hat:=hw.at_;generalize hL:g.ins.drop w.p=L at hat
 generalize hC:w.cc=cc at hat
 cases hat with
 | body h =>
  cases h with
  | ret =>
   refine (ret_w hg hw hL).mono ?_;rintro u N' H' ⟨R,rfl,rfl⟩;have hle:g.totE.length=w.ek*3:=by rw [<- hw.tote,hL,<- hw.evl,show Xi g.bt [.ret] w.ls.length w.s=[] from rfl,List.append_nil]
   refine ⟨.over ⟨N',w.un,w.ev,w.ek,w.hp,R,hle⟩,J,J,J,?_⟩;have:=(O8 hL).2.1;show 0<w.mu;simp only [Lw.mu];omega
  | @new k r hk hr =>
   by_cases hs:k<w.s
   ·exact (new_w hg hT hw hk hL hr hC hs).mono (up1 fun _ _ _ h=>h)
   ·cases hb:g.bt w.s with
    | true=>exact (new_wt hg hT hw hk hL hr hC (by omega) hb).mono up2
    | false=>exact (new_wf hg hT hw hk hL hr hC (by omega) hb).mono (up1 fun _ _ _ h=>h)
  | @get k r hk hr =>
   by_cases hs:k<w.s
   ·exact (get_w hg hT hb8 hw hk hL hr hC hs).mono (up1 fun _ _ _ h=>h)
   ·cases hb:g.bt w.s with
    | true=>exact (get_wt hg hT hb8 hw hk hL hr hC (by omega) hb).mono up2
    | false=>exact (get_wf hg hT hb8 hw hk hL hr hC (by omega) hb).mono (up1 fun _ _ _ h=>h)
  | is hk hr=>exact (load_w hg hw hk hL hr hC).mono (up1 fun _ _ _ h=>h)
 | pop hr=>exact (pop_w hg hw hL hr hC).mono (up1 fun _ _ _ h=>h)
 | is hk hr=>exact (is_w hg hT hw hk hL hr hC).mono (up1 fun _ _ _ h=>h)
theorem Hu (hg:g.Ok) (w:LvO g):HF Tryz.prog 353 [.ptr g.x.mc 0] (e2 g w).nn (g.c.H 2 (e2 g w)) fun u N' H'=>∃ s:FgL g,u=.tup []/\N'=(s.d (e1 g) (e2 g) (e0 g)).nn/\H'=s.hh g.c (e1 g) (e2 g) (e0 g)/\s.mu (fun w=>w.1.mu) (fun w=>w.1.mu)<w.1.mu:=by
 obtain ⟨w,hw⟩:=w
 have up2:∀ (u:SV) (N':Nat) (H':Ch),(∃ w':Lv g,w'.Ok/\u=.tup []/\N'=w'.N/\H'=g.c.H 2 w'.fp/\w'.mu<w.mu)->∃ s:FgL g,u=.tup []/\N'=(s.d (e1 g) (e2 g) (e0 g)).nn/\H'=s.hh g.c (e1 g) (e2 g) (e0 g)/\s.mu (fun w=>w.1.mu) (fun w=>w.1.mu)<w.mu :=
  fun u N' H' ⟨w',h1,h2,h3,h4,h5⟩=>⟨.two ⟨w',h1⟩,h2,h3,h4,h5⟩
 have hp:=hw.pos;rcases (show w.pos=0\/w.pos=1\/w.pos=2 by omega) with h | h | h
 ·exact (v_push hg hw h).mono up2
 ·exact (v_print hg hw h).mono up2
 ·refine (v_back hg hw h).mono ?_;rintro u N' H' ⟨w',h1,h2,h3,h4,h5⟩;exact ⟨.one ⟨w',h1⟩,h2,h3,h4,h5⟩
end
end S
end Go.Proofs.YtpofmnfkdkmieaaGreat
