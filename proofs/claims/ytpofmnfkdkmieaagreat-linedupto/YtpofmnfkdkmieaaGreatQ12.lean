/- What is proved here: contracts over more blocks than are need -/
import Derived.Test.YtpofmnfkdkmieaaGreatQ11
set_option linter.unusedVariables false
set_option linter.unusedSimpArgs false
namespace Go.Proofs.YtpofmnfkdkmieaaGreat
namespace S
open Go Go.RowKit E
section
variable {T:List Nat} {N0 N:Nat} {G0 G G':Nat->Option SB} {H H' Hc Hr:Ch}
theorem Hx.callS (h:Hx T N0 G0 H G) (hN:N0<=N) (hfr:∀ i,N<=i->G i=none) (h1:∀ p ∈ Hc,p ∈ H) (h2:∀ p ∈ Hr,p ∈ H) (hn:((Hc++Hr).map (·.1)).Nodup) (hc:Hx (Hc.map (·.1)) N G H' G'):Hx T N0 G0 (H'++Hr) G':=by
 rw [List.map_append] at hn;have hn':=List.nodup_append.1 hn;have hdis:∀ p ∈ Hr,p.1 ∉ Hc.map (·.1):=fun p hp hm=>hn'.2.2 p.1 hm p.1 (List.mem_map.2 ⟨p,hp,rfl⟩) rfl;have hkeep:∀ p ∈ Hr,G' p.1=some p.2:=fun p hp=>hc.old p.1 p.2 (h.hs.at_ p (h2 p hp)) (hdis p hp)
 have hTin:∀ x ∈ Hc.map (·.1),x ∈ T\/N0<=x:=fun x hx=>by
  obtain ⟨p,hp,rfl⟩:=List.mem_map.1 hx;exact h.mine p (h1 p hp)
 refine ⟨⟨fun p hp=>?_,?_⟩,fun q x hq hT=>?_,fun p hp=>?_,h.fr0⟩
 ·rcases List.mem_append.1 hp with hp | hp
  ·exact hc.hs.at_ p hp
  ·exact hkeep p hp
 ·rw [List.map_append,List.nodup_append];refine ⟨hc.hs.nd,hn'.2.1,fun a ha b hb e=>?_⟩;obtain ⟨p,hp,rfl⟩:=List.mem_map.1 ha;obtain ⟨q,hq,rfl⟩:=List.mem_map.1 hb;rcases hc.mine p hp with hm | hm
  ·exact hdis q hq (e ▸ hm)
  ·have:=h.hs.at_ q (h2 q hq);rw [hfr q.1 (by omega)] at this;cases this
 ·refine hc.old q x (h.old q x hq hT) (fun hm=>?_);rcases hTin q hm with h1 | h1
  ·exact hT h1
  ·rw [h.fr0 q h1] at hq;cases hq
 ·rcases List.mem_append.1 hp with hp | hp
  ·rcases hc.mine p hp with hm | hm
   ·exact hTin _ hm
   ·exact .inr (by omega)
  ·exact h.mine p (h2 p hp)
end
section
variable {P:Program} {f:FuncId} {args:List SV} {N N1:Nat} {H Hc K H1 H2:Ch} {v:SV}
theorem HF.conv {R:SV->Nat->Ch->Prop} (h:HF P f args N Hc R) (h1:H.Perm (Hc++K)):HF P f args N H fun v N' H'=>∃ H1,R v N' H1/\(H1++K).Perm H':=by
 refine ⟨h.1,fun G hs hfr=>?_⟩;have hs':=hs.perm h1;have hsc:Hs Hc G:=hs'.sub (fun p hp=>List.mem_append_left _ hp) (by have:=hs'.nd;rw [List.map_append] at this;exact (List.nodup_append.1 this).1);refine (h.2 G hsc hfr).mono ?_;rintro v N' G' ⟨H1,hR,hx⟩;refine ⟨H1++K,⟨H1,hR,List.Perm.refl _⟩,?_⟩;exact Hx.callS (Hx.start hs hfr) (Nat.le_refl _) hfr (fun p hp=>h1.mem_iff.2 (List.mem_append_left _ hp)) (fun p hp=>h1.mem_iff.2 (List.mem_append_right _ hp)) hs'.nd hx
theorem HF.to (h:HF P f args N Hc (fun a b c=>a=v/\b=N1/\c=H1)) (h1:H.Perm (Hc++K)) (h2:(H1++K).Perm H2):HF P f args N H (fun a b c=>a=v/\b=N1/\c=H2):=by
 refine ⟨h.1,fun G hs hfr=>((h.conv h1).2 G hs hfr).mono ?_⟩;rintro u N' G' ⟨H',⟨H1',⟨rfl,rfl,rfl⟩,hp⟩,hx⟩;exact ⟨H2,⟨J,J,J⟩,hx.perm (hp.symm.trans h2)⟩
theorem Nw {α:Type}:∀ L:List α,(List.range L.length).filterMap (fun i=>L[i]?)=L
 | []=>rfl
 | x::L=>by
  rw [List.length_cons,List.range_succ_eq_map,List.filterMap_cons];simp only [List.getElem?_cons_zero,List.filterMap_map];congr 1;exact Nw L
theorem Ei {α:Type}:∀ {L:List α} {is:List Nat},is.Perm (List.range L.length)->L.Perm (is.filterMap fun i=>L[i]?):=by
 intro L is h;have h1:(is.filterMap fun i=>L[i]?).Perm ((List.range L.length).filterMap fun i=>L[i]?):=h.filterMap _;have h2:=Nw L;rw [h2] at h1;exact h1.symm
theorem HF.pick {k k2:Nat} (is js os:List Nat) (h:HF P f args N (Yd H is) (fun a b c=>a=v/\b=N1/\c=H1)) (hk:H.length=k) (hn:(is++js).Perm (List.range k)) (hk2:(H1++Yd H js).length=k2) (ho:os.Perm (List.range k2)) (h2:Yd (H1++Yd H js) os=H2):HF P f args N H (fun a b c=>a=v/\b=N1/\c=H2):=by
 subst hk;subst hk2;refine h.to (K:=Yd H js) ?_ ?_
 ·have:=Ei (L:=H) hn;rw [List.filterMap_append] at this;exact this
 ·rw [<- h2];exact Ei ho
end
section
variable {P:Program} {l:Option Nat} {n:Nat} {all:Array Oper} {w0 w w':World} {F:List Nat} {B B0:Nm} {N N0:Nat} {T:List Nat} {G0 G:Nat->Option SB} {A U H H2:Ch} {E El E' Er:SE} {D:List SD} {a:Act} {o:Oper} {L:List Oper} {Q:Exit->Act->World->Prop} {x y:Code} {e:Exit}
theorem Sp {is js:List Nat} (hs:Hs (A++U) G) (hn:(is++js).Nodup):(((Yd A is++U)++Yd A js).map (·.1)).Nodup:=by
 have hA:Hs A G:=hs.sub (fun p hp=>List.mem_append_left _ hp) (by have:=hs.nd;rw [List.map_append] at this;exact (List.nodup_append.1 this).1)
 have hAU:∀ p ∈ A,∀ q ∈ U,p.1≠q.1:=fun p hp q hq e=>by
  have:=hs.nd;rw [List.map_append] at this;exact (List.nodup_append.1 this).2.2 p.1 (List.mem_map.2 ⟨p,hp,J⟩) q.1 (List.mem_map.2 ⟨q,hq,J⟩) e
 have hU:(U.map (·.1)).Nodup:=by have:=hs.nd;rw [List.map_append] at this;exact (List.nodup_append.1 this).2.1
 have hp:=Tc hA hn;have hpe:Yd A (is++js)=Yd A is++Yd A js:=by unfold Yd;rw [List.filterMap_append]
 rw [hpe,List.map_append] at hp;have hp':=List.nodup_append.1 hp;rw [List.map_append,List.map_append,List.nodup_append,List.nodup_append];refine ⟨⟨hp'.1,hU,fun a ha b hb e=>?_⟩,hp'.2.1,fun a ha b hb e=>?_⟩
 ·obtain ⟨p,hp,rfl⟩:=List.mem_map.1 ha;obtain ⟨q,hq,rfl⟩:=List.mem_map.1 hb;exact hAU p (Yq hp) q hq e
 ·rcases List.mem_append.1 ha with ha | ha
  ·exact hp'.2.2 a ha b hb e
  ·obtain ⟨p,hp,rfl⟩:=List.mem_map.1 ha;obtain ⟨q,hq,rfl⟩:=List.mem_map.1 hb;exact hAU q (Yq hq) p hp e.symm
theorem HL_cdT {f:FuncId} {xx:Operand} {xs:Array Operand} {ts:Array TypeId} {u c m:List SV} {v:SV} {N1:Nat} {A1 U1:Ch} (is js:List Nat) (H2:Ch) (hng:Vh P) (hw:wants E all o.guard=some true) (ho:o.op=.call ⟨.value xx,xs,ts⟩) (hx:sev E xx=some (.fn f u c)) (hxs:sargs E xs.toList=some m) (hn:(is++js).Nodup)
  (hF:HF P f (u++m++c) N (Yd A is++U) (fun a b c=>a=v/\b=N1/\c=A1++U1)) (hp:putD n E o.dst v=some E') (hH:A1++(Yd A js++U1)=H2) (k:HL P l n all w0 F B0 N0 T G0 Q L E' D N1 H2):HL P l n all w0 F B0 N0 T G0 Q (o::L) E D N (A++U):=fun G hG B w a hs hg ha=>by
 have hfr:∀ i,N<=i->G i=none:=fun i hi=>(hg.new i hi).2;have hnd:=Sp hG.hs hn
 have hin:∀ p ∈ Yd A is++U,p ∈ A++U:=fun p hp=>by
  rcases List.mem_append.1 hp with hp | hp
  ·exact List.mem_append_left _ (Yq hp)
  ·exact List.mem_append_right _ hp
 have hsc:Hs (Yd A is++U) G:=hG.hs.sub hin (by rw [List.map_append] at hnd;exact (List.nodup_append.1 hnd).1);refine Re hng hw ho hx hxs (hF.2 G hsc hfr) ?_ B w a hs hg ha;rintro v' N' G' ⟨H',⟨rfl,rfl,rfl⟩,hc⟩;subst hH;refine ⟨E',hp,k G' ((Hx.callS hG hs.le hfr hin (fun p hp=>List.mem_append_left _ (Yq hp)) hnd hc).perm ?_)⟩;rw [List.append_assoc];exact (List.perm_append_comm).append_left _
theorem Nf {f:FuncId} {xx:Operand} {xs:Array Operand} {ts:Array TypeId} {u c m:List SV} {v:SV} {N1:Nat} {H1:Ch} (is js:List Nat) (H2:Ch) (hng:Vh P) (hw:wants E all o.guard=some true) (ho:o.op=.call ⟨.value xx,xs,ts⟩) (hx:sev E xx=some (.fn f u c)) (hxs:sargs E xs.toList=some m) (hn:(is++js).Nodup)
  (hF:HF P f (u++m++c) N (Yd A is) (fun a b c=>a=v/\b=N1/\c=H1)) (hp:putD n E o.dst v=some E') (hH:H1++(Yd A js++U)=H2) (k:HL P l n all w0 F B0 N0 T G0 Q L E' D N1 H2):HL P l n all w0 F B0 N0 T G0 Q (o::L) E D N (A++U):=fun G hG B w a hs hg ha=>by
 have hfr:∀ i,N<=i->G i=none:=fun i hi=>(hg.new i hi).2;have hnd0:=Sp hG.hs hn
 have hnd:((Yd A is++(Yd A js++U)).map (·.1)).Nodup:=by
  refine (List.Perm.nodup_iff ?_).1 hnd0;rw [List.append_assoc];exact ((List.perm_append_comm).append_left _).map _
 have hin:∀ p ∈ Yd A is,p ∈ A++U:=fun p hp=>List.mem_append_left _ (Yq hp);have hsc:Hs (Yd A is) G:=hG.hs.sub hin (by rw [List.map_append] at hnd;exact (List.nodup_append.1 hnd).1);refine Re hng hw ho hx hxs (hF.2 G hsc hfr) ?_ B w a hs hg ha;rintro v' N' G' ⟨H',⟨rfl,rfl,rfl⟩,hc⟩;subst hH;refine ⟨E',hp,k G' (Hx.callS hG hs.le hfr hin (fun p hp=>?_) hnd hc)⟩;rcases List.mem_append.1 hp with hp | hp
 ·exact List.mem_append_left _ (Yq hp)
 ·exact List.mem_append_right _ hp
theorem HQ_finT {fn:Func} {m:List SV} {R:SV->Nat->Ch->Prop} {T:List Nat} (is:List Nat) (he:e=.normal\/e=.ret) (hng:Vh P) (hr:resT E fn.results.toList=some m) (hn:is.Nodup) (hR:R (resV m) N (Yd A is++U)) :
  HQ n w0 F B0 N0 T G0 (bodyPostM (Wz none) 0 P fn (Fin B0 N0 w0 F fun v N' G'=>∃ H',R v N' H'/\Hx T N0 G0 H' G')) e E [] N (A++U):=fun a w ⟨G,B,hG,hs,hg,ha⟩=>by
 obtain ⟨El,h1,h2⟩:=L3 (P:=P) N _ m hr;have hnd:=Sp (is:=is) (js:=[]) hG.hs (by simpa using hn)
 have hx:Hx T N0 G0 (Yd A is++U) G:=by
  have hin:∀ p ∈ Yd A is++U,p ∈ A++U:=fun p hp=>by
   rcases List.mem_append.1 hp with hp | hp
   ·exact List.mem_append_left _ (Yq hp)
   ·exact List.mem_append_right _ hp
  exact ⟨hG.hs.sub hin (by simpa [Yd] using hnd),hG.old,fun p hp=>hG.mine p (hin p hp),hG.fr0⟩
 have:=Km (bs:=[]) (σ:=⟨0,.nil⟩) hng ⟨rfl,by simp,by simp,(fun i sb h=>by cases h),(fun i g h=>by cases h)⟩ h1 h2 (R:=fun v N' G'=>∃ H',R v N' H'/\Hx T N0 G0 H' G') (by rw [Sb (by simp)];exact ⟨_,hR,hx⟩) hs hg ha;rcases he with rfl | rfl
 ·exact this
 ·exact this
def rQ (Q:Exit->Act->World->Prop):Exit->Act->World->Prop:=fun e a w=>Q e a w/\∃ z,e=xt z
theorem Yv (h:HC P l n w0 F B0 N0 T G0 (rQ Q) x E D N H):HC P l n w0 F B0 N0 T G0 Q x E D N H:=fun G hG B w a hs hg ha=>wpIn_mono (h G hG B w a hs hg ha) fun _ _ _ q=>q.1
theorem Yg (h:HC P l n w0 F B0 N0 T G0 (Exit.then ((Code.loop x).wpIn (Wz l) 0 P (rQ Q)) (rQ Q)) x E D N H):HC P l n w0 F B0 N0 T G0 (rQ Q) (.loop x) E D N H:=fun G hG B w a hs hg ha=>Mf (fun _ _ _ q=>q.2) (h G hG B w a hs hg ha)
theorem Xb {z:Xt} (he:e=xt z) (h:HQ n w0 F B0 N0 T G0 Q e E D N H):HQ n w0 F B0 N0 T G0 (rQ Q) e E D N H:=fun a w hA=>⟨h a w hA,z,he⟩
theorem HC_lk {E2:SE} (hE:Lk E E2) (h:HC P l n w0 F B0 N0 T G0 Q x E2 D N H):HC P l n w0 F B0 N0 T G0 Q x E D N H:=fun G hG B w a hs hg ha=>h G hG B w a hs hg ⟨⟨ha.tm.1,fun i v hv=>ha.tm.2 i v (hE.get i v hv)⟩,ha.df⟩
theorem HF.fr {f:FuncId} {args:List SV} {v:SV} {N1:Nat} {H1:Ch} (U:Ch) (h:HF P f args N H (fun a b c=>a=v/\b=N1/\c=H1)):HF P f args N (H++U) (fun a b c=>a=v/\b=N1/\c=H1++U):=h.to (List.Perm.refl _) (List.Perm.refl _)
theorem HF.pickT {f:FuncId} {args:List SV} {v:SV} {N1 k k2:Nat} {H1:Ch} (is js os:List Nat) (h:HF P f args N (Yd A is) (fun a b c=>a=v/\b=N1/\c=H1)) (hk:A.length=k) (hn:(is++js).Perm (List.range k)) (hk2:(H1++Yd A js).length=k2) (ho:os.Perm (List.range k2)) (h2:Yd (H1++Yd A js) os=H2):HF P f args N (A++U) (fun a b c=>a=v/\b=N1/\c=H2++U):=(HF.pick is js os h hk hn hk2 ho h2).fr U
theorem Uy {α:Type} {st:α->SE} {nn:α->Nat} {hh:α->Ch} (s:α) (hE:Lk E (st s)) (hN:nn s=N) (hH:hh s=H) (h:HC P l n w0 F B0 N0 T G0 Q x (st s) D (nn s) (hh s)):HC P l n w0 F B0 N0 T G0 Q x E D N H:=by
 subst hN;subst hH;exact HC_lk hE h
theorem X1 {α:Type} {μ:α->Nat} {st:α->SE} {nn:α->Nat} {hh:α->Ch} {s:α} (s':α) (hμ:μ s'<μ s) (hE:Lk E (st s')) (hN:nn s'=N) (hH:hh s'=H) :
  HQ n w0 F B0 N0 T G0 (Exit.then (fun a w=>∃ s',μ s'<μ s/\HA n w0 F B0 N0 T G0 (st s') D (nn s') (hh s') a w) Q) .normal E D N H:=by
 subst hN;subst hH;rintro a w ⟨G,B,hG,hs,hg,ha⟩;exact ⟨s',hμ,G,B,hG,hs,hg,⟨⟨ha.tm.1,fun i v hv=>ha.tm.2 i v (hE.get i v hv)⟩,ha.df⟩⟩
end
end S
namespace S
open Go Go.RowKit E
section
variable {P:Program} {l:Option Nat} {n:Nat} {w0:World} {F:List Nat} {B B0:Nm} {N N0:Nat} {T:List Nat} {G0:Nat->Option SB} {H:Ch} {E Er:SE} {D:List SD} {Q:Exit->Act->World->Prop} {L:List Oper} {ef:List Nat} {phs:Phs} {i:Nat} {o:Oper} {v:SV} {a:Act} {w w':World}
def HEx (P:Program) (l:Option Nat) (n:Nat) (all:Array Oper) (D:List SD) (o:Oper) (Er:SE) (N:Nat) (H:Ch) {Θ:Type} (v:Θ->SV) (N':Θ->Nat) (H':Θ->Ch):Prop :=
 ∀ w0 F B0 N0 T G0 Q,(∀ θ,HL P l n all w0 F B0 N0 T G0 Q [] (Ve o (v θ) Er) D (N' θ) (H' θ))->HL P l n all w0 F B0 N0 T G0 Q [o] Er D N H
def QX (P:Program) (l:Option Nat) (n:Nat) (D:List SD) (L:List Oper) (ef:List Nat) (phs:Phs) (i0:Nat):Nat->List Oper->List SV->SE->Prop
 | _,[],[],_=>True
 | i,o::r,v::vs,E=>(i=i0\/QE P l n D L ef phs i o (erOf L.toArray E o) v)/\QX P l n D L ef phs i0 (i+1) r vs (Ve o v E)
 | _,_,_,_=>False
theorem Fo {i0:Nat}:∀ {R:List Oper} {vs:List SV} {b:Nat} {E:SE},QX P l n D L ef phs i0 b R vs E->R.length=vs.length/\∀ (i:Nat) (o:Oper) (v:SV),R[i]?=some o->vs[i]?=some v->b+i=i0\/QE P l n D L ef phs (b+i) o (erOf L.toArray (Wb R vs E i) o) v
 | [],[],b,E,_=>⟨rfl,fun i o v h=>by simp at h⟩
 | [],_::_,b,E,h=>h.elim
 | _::_,[],b,E,h=>h.elim
 | o::r,v::vs,b,E,h=>by
  obtain ⟨h1,h2⟩:=Fo (b:=b+1) h.2;refine ⟨by simp [h1],fun i q u hi hu=>?_⟩;cases i with
  | zero =>
   have e1:o=q:=by simpa using hi
   have e2:v=u:=by simpa using hu
   subst e1;subst e2;exact h.1
  | succ i =>
   have:=h2 i q u (by simpa using hi) (by simpa using hu);rw [show b+1+i=b+(i+1) by omega] at this;exact this
theorem Mq:∀ (L:List Oper) (vs vs':List SV) (E:SE) (i:Nat),vs.length=vs'.length->vs.take i=vs'.take i->Wb L vs E i=Wb L vs' E i
 | [],_,_,_,i,_,_=>by cases i<;>rfl
 | _::_,[],[],_,i,_,_=>by cases i<;>rfl
 | _::_,[],_::_,_,i,h,_=>by simp at h
 | _::_,_::_,[],_,i,h,_=>by simp at h
 | o::r,v::vs,v'::vs',E,0,_,_=>rfl
 | o::r,v::vs,v'::vs',E,i+1,h,hT=>by
  simp only [List.take_succ_cons,List.cons.injEq] at hT;obtain ⟨rfl,hT⟩:=hT;exact Mq r vs vs' (Ve o v E) i (by simpa using h) hT
theorem Tj {Θ:Type} (θ0:Θ) {id:Nat} (vs:Θ->List SV) (ef:List Nat) (phs:Θ->Phs) (i0 j0:Nat) (hm:P.follows .mixedOrders=true) (h1:Mx L=true) (h2:Q5 L=true) (h3:ckRd L.toArray L=true) (h4:ckN n L=true) (h5:ckEf L ef=true) (h6:U6 (fun i o=>Nat.ble i i0 || Vn L 2 o i0) 0 L=true) (hj0:ef[j0]?=some i0)
  (hvs:∀ θ θ',(vs θ).take i0=(vs θ').take i0) (hph:∀ θ θ',(phs θ).take (j0+1)=(phs θ').take (j0+1)) (h0:∀ θ,(phs θ)[0]?=some (N,H)) (hq:∀ θ,QX P l n D L ef (phs θ) i0 0 L (vs θ) E)
  {Nx:Nat} {Hx0:Ch} {o0:Oper} {vx:Θ->SV} {Ny:Θ->Nat} {Hy:Θ->Ch} (ho0:L[i0]?=some o0) (hx1:∀ θ,(phs θ)[j0]?=some (Nx,Hx0)) (hx2:∀ θ,(phs θ)[j0+1]?=some (Ny θ,Hy θ)) (hx3:∀ θ,(vs θ)[i0]?=some (vx θ)) (hX:HEx P l n L.toArray D o0 (erOf L.toArray (Wb L (vs θ0) E i0) o0) Nx Hx0 vx Ny Hy)
  {N':Θ->Nat} {H':Θ->Ch} (hlast:∀ θ,(phs θ)[ef.length]?=some (N' θ,H' θ)) (k:∀ θ,HL P l n #[] w0 F B0 N0 T G0 Q [] (Wb L (vs θ) E L.length) D (N' θ) (H' θ)):HC P l n w0 F B0 N0 T G0 Q (.region id L.toArray true) E D N H:=by
 have hlen:∀ θ,L.length=(vs θ).length:=fun θ=>(Fo (hq θ)).1;have hqs:=fun θ=>(Fo (hq θ)).2;intro G hG B w a hs hg ha;have hto:∀ (i:Nat) (o:Oper),L.toArray[i]?=some o->L[i]?=some o:=fun i o h=>by simpa using h
 have hedge:∀ (i:Nat) (o:Oper) (e:Edge),L[i]?=some o->e ∈ o.after->Region.binds .any e=true->e.on<i:=by
  intro i o e ho he hb;have c:=We h2 ho;have c2:=List.all_eq_true.1 c e (by simpa using he);rw [hb] at c2
  simpa using c2
 have hdst:∀ (i j:Nat) (o q:Oper) (d:Nat),L[i]?=some o->L[j]?=some q->i≠j->o.dst=some d->q.dst≠some d:=by
  intro i j o q d ho hqj hij hd hd';have c:=We h1 ho;rw [hd] at c;simp only at c;have c2:=We c hqj;rw [hd',W3 hij] at c2;simp at c2
 have hdn:∀ (i:Nat) (o:Oper) (d:Nat),L[i]?=some o->o.dst=some d->d<n:=by
  intro i o d ho hd;have c:=List.all_eq_true.1 h4 o (List.mem_of_getElem? ho);rw [hd] at c
  simpa using c
 have hefL:∀ (j e:Nat),ef[j]?=some e->∃ q,L[e]?=some q/\∀ j':Nat,j=j'+1->∃ e',ef[j']?=some e'/\Vn L 2 q e'=true:=by
  intro j e hj;have c:=We h5 hj;cases hL:L[e]? with
  | none=>simp only [hL] at c;cases c
  | some q =>
   simp only [hL] at c;refine ⟨q,J,fun j' hj'=>?_⟩;subst hj';simp only at c;cases he':ef[j']? with
   | none=>simp only [he'] at c;cases c
   | some e'=>simp only [he'] at c;exact ⟨e',J,c⟩
 have hmono:∀ (j j' e e':Nat),ef[j]?=some e->ef[j']?=some e'->j<j'->e<e':=by
  intro j j';induction j' with
  | zero=>intro e e' _ _ h;omega
  | succ j' ih =>
   intro e e' he he' hlt;obtain ⟨q,hq',hc⟩:=hefL (j'+1) e' he';obtain ⟨e2,he2,hb⟩:=hc j' rfl;have hlt2:=Oc hedge 2 e' q e2 hq' hb;rcases Nat.lt_or_ge j j' with h | h
   ·exact Nat.lt_trans (ih e e2 he he2 h) hlt2
   ·have:j=j':=by omega
    subst this;rw [he] at he2;cases he2;exact hlt2
 have hinj:∀ (j j' e:Nat),ef[j]?=some e->ef[j']?=some e->j=j':=by
  intro j j' e h h';rcases Nat.lt_trichotomy j j' with hl | hl | hl
  ·exact absurd (hmono j j' e e h h' hl) (Nat.lt_irrefl _)
  ·exact hl
  ·exact absurd (hmono j' j e e h' h hl) (Nat.lt_irrefl _)
 have hagsR:∀ {θ:Θ} {ls a w k B N H G},InvE L (vs θ) ef (phs θ) n E D w0 F B0 N0 T G0 ls a w k B N H G->∀ i o,L[i]?=some o->(∀ e ∈ o.after,Region.binds .any e=true->ls.getD e.on false=true)->Ags n a (erOf L.toArray (Wb L (vs θ) E i) o) D B:=by
  intro θ ls a w k B N H G hI i o ho hafter;refine ⟨⟨hI.tm,fun t v ht=>?_⟩,hI.df⟩
  have hread:∀ (j:Nat) (q:Oper),L[j]?=some q->q.dst=some t->∃ e,e ∈ o.after/\Region.binds .any e=true/\e.on=j:=by
   intro j q hj hd;have c:=List.all_eq_true.1 h3 o (List.mem_of_getElem? ho);have c2:=List.all_eq_true.1 c t (Ob (Ss ht));have c3:=We c2 hj;rw [hd] at c3;simp only [Nat.beq_refl,Bool.not_true,Bool.false_or,List.any_eq_true,Bool.and_eq_true] at c3;obtain ⟨e,he,hb,hon⟩:=c3;exact ⟨e,by simpa using he,hb,Nat.eq_of_beq_eq_true hon⟩
  have hi:i<L.length:=(List.getElem?_eq_some_iff.1 ho).1;rcases Vy L (vs θ) E i t v (by omega) (hlen θ) (Vw ht) with ⟨j,q,hji,hj,hvj,hd⟩ | ⟨h5,h6⟩
  ·obtain ⟨e,he,hb,rfl⟩:=hread j q hj hd;exact hI.done e.on q t v hj hvj (hafter e he hb) hd
  ·refine hI.old t v h5 (fun j q hj hd=>?_);obtain ⟨e,he,hb,rfl⟩:=hread j q hj hd;exact h6 e.on q (hedge i o e ho he hb) hj hd
 refine wpIn_region_any hm ?_;refine K7 (I:=fun ls a w=>∃ θ k B N H G,InvE L (vs θ) ef (phs θ) n E D w0 F B0 N0 T G0 ls a w k B N H G) (fun _ _ _ ⟨_,_,_,_,_,_,h⟩=>by rw [h.sz];simp) (fun i o e ho=>hedge i o e (hto i o ho)) ?_ ?_ _ _ _ _ ?_ ?_
 ·rintro ls a w i ⟨θ,k,B,N,H,G,hI⟩ hi;obtain ⟨hil,o,ho',hafter⟩:=mem_ready.1 hi;have ho:=hto i o ho';have hiL:i<L.length:=(List.getElem?_eq_some_iff.1 ho).1;have hvl:∀ θ,i<(vs θ).length:=fun θ=>by have:=hlen θ;omega
  have hv:∀ θ,(vs θ)[i]?=some ((vs θ)[i]'(hvl θ)):=fun θ=>List.getElem?_eq_getElem (hvl θ)
  have hil':ls.getD i false=false:=by
   have hlt:i<ls.size:=by rw [hI.sz];exact hiL
   simpa [Array.getD,hlt] using hil
  have hags:=hagsR hI i o ho hafter;have hQE:=hqs θ i o _ ho (hv θ);rw [Nat.zero_add] at hQE;unfold wpOpIn;rw [ho'];simp only
  have hstep:∀ {θ:Θ},InvE L (vs θ) ef (phs θ) n E D w0 F B0 N0 T G0 ls a w k B N H G->∀ {a':Act} {w1:World} {x:Value} {k':Nat} {B':Nm} {N1:Nat} {H1:Ch} {G1:Nat->Option SB},a'.tmps=(a.put o.dst x).tmps->(∀ d,o.dst=some d->den B' ((vs θ)[i]'(hvl θ))=some x)->Pre B B'->(phs θ)[k']?=some (N1,H1)->k'<=ef.length->(∀ (j e:Nat),ef[j]?=some e->((if i=e then True else ls.getD e false=true)↔j<k'))->Since B0 N0 B' N1->Gx w0 F B' N1 G1 w1->Hx T N0 G0 H1 G1->W8 B' D=some a'.defers ->
    InvE L (vs θ) ef (phs θ) n E D w0 F B0 N0 T G0 (ls.setIfInBounds i true) a' w1 k' B' N1 H1 G1:=by
   intro θ hI a' w1 x k' B' N1 H1 G1 hat hx hpre hph hkb hcnt hsi hgx hhx hdf
   have hset:∀ j,(ls.setIfInBounds i true).getD j false=true↔(if i=j then True else ls.getD j false=true):=by
    intro j;rw [Oy];by_cases e:i=j
    ·rw [if_pos e,if_pos e,if_pos (by rw [hI.sz];exact hiL)];simp
    ·rw [if_neg e,if_neg e]
   refine ⟨by rw [Array.size_setIfInBounds];exact hI.sz,hph,hkb,fun j e he=>(hset e).trans (hcnt j e he),fun i2 o2 e ho2 hl2 he hb=>?_,hsi,hgx,hhx,?_,hdf,fun j q d v hj hvj hl hd=>?_,fun t v ht hn=>?_⟩
   ·rw [hset] at hl2 ⊢;by_cases e2:i=i2
    ·subst e2;rw [ho] at ho2;cases ho2;by_cases e3:i=e.on
     ·rw [if_pos e3];trivial
     ·rw [if_neg e3];exact hafter e he hb
    ·rw [if_neg e2] at hl2;by_cases e3:i=e.on
     ·rw [if_pos e3];trivial
     ·rw [if_neg e3];exact hI.cl i2 o2 e ho2 hl2 he hb
   ·rw [hat];cases hod:o.dst with
    | none=>exact hI.tm
    | some d=>show n<=(a.tmps.setIfInBounds d x).size;rw [Array.size_setIfInBounds];exact hI.tm
   ·rw [hat];by_cases e2:i=j
    ·subst e2;rw [ho] at hj;cases hj;rw [hv θ] at hvj;cases hvj;refine ⟨x,hx d hd,?_⟩;rw [hd];show (a.tmps.setIfInBounds d x)[d]?=_;rw [Array.getElem?_setIfInBounds,if_pos rfl,if_pos (Nat.lt_of_lt_of_le (hdn i o d ho hd) hI.tm)]
    ·rw [hset,if_neg e2] at hl;obtain ⟨y,hy,hty⟩:=hI.done j q d v hj hvj hl hd;exact ⟨y,Xl hpre v y hy,by rw [V2 (fun e'=>hdst i j o q d ho hj e2 e' hd)];exact hty⟩
   ·rw [hat];obtain ⟨y,hy,hty⟩:=hI.old t v ht hn;exact ⟨y,Xl hpre v y hy,by rw [V2 (hn i o ho)];exact hty⟩
  have hcntQ:i ∉ ef->∀ (j e:Nat),ef[j]?=some e->((if i=e then True else ls.getD e false=true)↔j<k):=by
   intro hne j e he;rw [if_neg (fun e':i=e=>hne (e' ▸ List.mem_of_getElem? he))];exact hI.cnt j e he
  by_cases hi0:i=i0
  ·subst hi0;have hoo:o=o0:=by rw [ho] at ho0;exact Option.some.inj ho0
   subst hoo
   have hjk:j0=k:=by
    have hnlt:¬ j0<k:=fun h=>by
     have:=(hI.cnt j0 i hj0).2 h;rw [hil'] at this;cases this
    cases hjc:j0 with
    | zero=>omega
    | succ j' =>
     obtain ⟨q,hqL,hc⟩:=hefL j0 i hj0;rw [ho] at hqL;cases hqL;obtain ⟨e',he',hb⟩:=hc j' hjc;have h:=Ww hI.cl 2 o e' hafter hb;have:=(hI.cnt j' e' he').1 h;omega
   subst hjk;have hNH:=hx1 θ;rw [hI.ph] at hNH;simp only [Option.some.injEq,Prod.mk.injEq] at hNH;obtain ⟨e1,e2⟩:=hNH;subst e1;subst e2;have hfr:∀ i,N<=i->G i=none:=fun i hi=>(hI.gx.new i hi).2;have henv:Wb L (vs θ0) E i=Wb L (vs θ) E i:=Mq L _ _ E i (by rw [<- hlen,<- hlen]) (hvs θ0 θ);rw [henv] at hX
   have hsw:∀ θ',InvE L (vs θ') ef (phs θ') n E D w0 F B0 N0 T G0 ls a w j0 B N H G:=fun θ'=>by
    refine ⟨hI.sz,hx1 θ',hI.kb,hI.cnt,hI.cl,hI.si,hI.gx,hI.hx,hI.tm,hI.df,fun j q d v hj hvj hl hd=>?_,hI.old⟩
    have hlt:j<i:=by
     rcases Nat.lt_or_ge j i with h | h
     ·exact h
     ·have c:=We h6 hj;rw [Bool.or_eq_true] at c;rcases c with c | c
      ·have:=Nat.le_of_ble_eq_true c;have:j=i:=by omega
       subst this;rw [hil'] at hl;cases hl
      ·have:=Ww hI.cl 2 q i (fun ed hed hbi=>hI.cl j q ed hj hl hed hbi) c;rw [hil'] at this;cases this
    refine hI.done j q d v hj ?_ hl hd;have:=congrArg (fun l:List SV=>l[j]?) (hvs θ θ');simp only [List.getElem?_take,if_pos hlt] at this;rw [this];exact hvj
   have hgo:=hX w0 F B N (H.map (·.1)) G (fun e a' w'=>e=.normal/\∃ θ' B' G',Since B N B' (Ny θ')/\Gx w0 F B' (Ny θ') G' w'/\Hx (H.map (·.1)) N G (Hy θ') G'/\Ags n a' (Ve o (vx θ') (erOf L.toArray (Wb L (vs θ) E i) o)) D B')
    (fun θ' G' hx'=>Ng fun B' w' a' hs' hg' ha'=>⟨rfl,θ',B',G',hs',hg',hx',ha'⟩) G (Hx.start hI.hx.hs hfr) B w a (Since.refl B N) hI.gx hags
   have hfin:∀ a' w',(∃ x,a'.tmps=(a.put o.dst x).tmps)->(∃ θ' B' G',Since B N B' (Ny θ')/\Gx w0 F B' (Ny θ') G' w'/\Hx (H.map (·.1)) N G (Hy θ') G'/\Ags n a' (Ve o (vx θ') (erOf L.toArray (Wb L (vs θ) E i) o)) D B')->∃ θ k B N H G,InvE L (vs θ) ef (phs θ) n E D w0 F B0 N0 T G0 (ls.setIfInBounds i true) a' w' k B N H G:=by
    rintro a' w' ⟨x,hat⟩ ⟨θ',B',G',hs',hg',hx',ha'⟩;have hvx:(vs θ')[i]'(hvl θ')=vx θ':=by have:=hx3 θ';rw [hv θ'] at this;exact Option.some.inj this
    have hcnt':∀ (j' e:Nat),ef[j']?=some e->((if i=e then True else ls.getD e false=true)↔j'<j0+1):=by
     intro j' e he;by_cases e2:i=e
     ·subst e2;rw [if_pos rfl,hinj j' j0 i he hj0];simp
     ·rw [if_neg e2,hI.cnt j' e he];constructor
      ·omega
      ·intro h;rcases Nat.lt_or_ge j' j0 with h' | h'
       ·exact h'
       ·have:j'=j0:=by omega
        subst this;rw [hj0] at he;cases he;exact absurd J e2
    have hxt:∃ y,(∀ d,o.dst=some d->den B' ((vs θ')[i]'(hvl θ'))=some y)/\a'.tmps=(a.put o.dst y).tmps:=by
     cases hod:o.dst with
     | none =>
      exact ⟨x,(fun d hd=>by cases hd),by rw [hat,hod]⟩
     | some d =>
      have hlk:slook (Ve o (vx θ') (erOf L.toArray (Wb L (vs θ) E i) o)) d=some (vx θ'):=by
       unfold Ve;rw [hod];simp only;rw [Z9,Nat.beq_refl];rfl
      obtain ⟨y,hy,hty⟩:=ha'.tm.2 d _ hlk;refine ⟨y,fun _ _=>by rw [hvx];exact hy,?_⟩;rw [hat,hod];have hd2:(a.tmps.setIfInBounds d x)[d]?=some y:=by rw [<- hty,hat,hod];rfl
      rw [Array.getElem?_setIfInBounds,if_pos rfl,if_pos (Nat.lt_of_lt_of_le (hdn i o d ho hod) hI.tm)] at hd2;cases hd2;rfl
    obtain ⟨y,hy,hat'⟩:=hxt;exact ⟨θ',j0+1,B',Ny θ',Hy θ',G',hstep (hsw θ') hat' hy hs'.pre (hx2 θ') (List.getElem?_eq_some_iff.1 hj0).1 hcnt' (hI.si.trans hs') hg' (hI.hx.trans hI.si.le hx') ha'.df⟩
   simp only [wpListIn] at hgo;cases hw:Region.wanted o (yielded L.toArray a.tmps) with
   | true =>
    rw [hw] at hgo;simp only [if_true] at hgo ⊢;refine Oper.wpIn_mono ?_ (Sm (fun e a w h=>h.1) hgo);rintro a' w' ⟨⟨_,h⟩,hx⟩;exact hfin a' w' hx h
   | false =>
    rw [hw] at hgo;simp only [Bool.false_eq_true,if_false] at hgo ⊢;exact ⟨hgo.1,hfin _ _ ⟨undef,J⟩ hgo.2.2⟩
  replace hQE:=hQE.resolve_left hi0;rcases hQE with ⟨hpos,hquiet⟩ | ⟨j,N1,H1,N2,H2,hpos,hp1,hp2,hHE⟩
  ·have hne:=Rr hpos
   have hok:Nn L ef i o k=true:=by
    unfold Nn;refine K8 fun j e he=>?_;rw [Nat.zero_add,Bool.and_eq_true];refine ⟨?_,?_⟩
    ·cases hb:Vn L 2 o e with
     | false=>rfl
     | true =>
      have:=Ww hI.cl 2 o e hafter hb
      simpa using (hI.cnt j e he).1 this
    ·obtain ⟨q,hqL,_⟩:=hefL j e he;rw [hqL];simp only;cases hb:Vn L 2 q i with
     | false=>rfl
     | true =>
      have:¬ j<k:=fun hlt=>by
       have h:=Ww hI.cl 2 q i (fun ed hed hbi=>hI.cl e q ed hqL ((hI.cnt j e he).2 hlt) hed hbi) hb;rw [hil'] at h;cases h
      simpa using this
   have hQ:=Jc hquiet k _ hI.ph (by rw [Nat.zero_add];exact hok) G hI.hx.hs;rcases hQ with ⟨hw,hv'⟩ | ⟨hw,hnd,hrun⟩
   ·rw [Y6 hags hw];simp only [Bool.false_eq_true,if_false];exact ⟨fun _ _=>trivial,θ,k,B,N,H,G,hstep hI (x:=undef) J (fun _ _=>by rw [show (vs θ)[i]'(hvl θ)=.tup [] from hv'];rfl) (Pre.refl B) hI.ph hI.kb (hcntQ hne) hI.si hI.gx hI.hx (by rw [show (a.put o.dst undef).defers=a.defers by cases o.dst<;>rfl];exact hI.df)⟩
   ·rw [Y6 hags hw];simp only [if_true];obtain ⟨x,w1,hx,hd,hg1⟩:=hrun w0 F B D w a hI.gx hags;have hst:=hstep hI (a':=a.put o.dst x) (x:=x) rfl (fun _ _=>hd) (Pre.refl B) hI.ph hI.kb (hcntQ hne) hI.si hg1 hI.hx (by rw [show (a.put o.dst x).defers=a.defers by cases o.dst<;>rfl];exact hI.df);refine ⟨fun _ _=>trivial,?_⟩;rw [Oper.semAt_eq _ _ _ hnd];rcases hx with hx | ⟨rfl,hx⟩
    ·rw [hx];exact ⟨θ,k,B,N,H,G,hst⟩
    ·rw [hx];exact ⟨θ,k,B,N,H,G,hst⟩
  ·obtain ⟨j0,hj0,hej⟩:=Uo hpos
   have hjk:j=k:=by
    rw [Nat.zero_add] at hj0;subst hj0
    have hnlt:¬ j<k:=fun h=>by
     have:=(hI.cnt j i hej).2 h;rw [hil'] at this;cases this
    cases hjc:j with
    | zero=>omega
    | succ j' =>
     obtain ⟨q,hqL,hc⟩:=hefL j i hej;rw [ho] at hqL;cases hqL;obtain ⟨e',he',hb⟩:=hc j' hjc;have h:=Ww hI.cl 2 o e' hafter hb;have:=(hI.cnt j' e' he').1 h;omega
   rw [Nat.zero_add] at hj0;subst hj0;subst hjk;rw [hI.ph] at hp1;cases hp1;have hfr:∀ i,N<=i->G i=none:=fun i hi=>(hI.gx.new i hi).2
   have hgo:=hHE w0 F B N (H.map (·.1)) G (fun e a' w'=>e=.normal/\∃ B' G',Since B N B' N2/\Gx w0 F B' N2 G' w'/\Hx (H.map (·.1)) N G H2 G'/\Ags n a' (Ve o ((vs θ)[i]'(hvl θ)) (erOf L.toArray (Wb L (vs θ) E i) o)) D B')
    (fun G' hx'=>Ng fun B' w' a' hs' hg' ha'=>⟨rfl,B',G',hs',hg',hx',ha'⟩) G (Hx.start hI.hx.hs hfr) B w a (Since.refl B N) hI.gx hags
   have hfin:∀ a' w',(∃ x,a'.tmps=(a.put o.dst x).tmps)->(∃ B' G',Since B N B' N2/\Gx w0 F B' N2 G' w'/\Hx (H.map (·.1)) N G H2 G'/\Ags n a' (Ve o ((vs θ)[i]'(hvl θ)) (erOf L.toArray (Wb L (vs θ) E i) o)) D B')->∃ θ k B N H G,InvE L (vs θ) ef (phs θ) n E D w0 F B0 N0 T G0 (ls.setIfInBounds i true) a' w' k B N H G:=by
    rintro a' w' ⟨x,hat⟩ ⟨B',G',hs',hg',hx',ha'⟩
    have hcnt':∀ (j' e:Nat),ef[j']?=some e->((if i=e then True else ls.getD e false=true)↔j'<j+1):=by
     intro j' e he;by_cases e2:i=e
     ·subst e2;rw [if_pos rfl,hinj j' j i he hej];simp
     ·rw [if_neg e2,hI.cnt j' e he];constructor
      ·omega
      ·intro h;rcases Nat.lt_or_ge j' j with h' | h'
       ·exact h'
       ·have:j'=j:=by omega
        subst this;rw [hej] at he;cases he;exact absurd J e2
    have hxt:∃ y,(∀ d,o.dst=some d->den B' ((vs θ)[i]'(hvl θ))=some y)/\a'.tmps=(a.put o.dst y).tmps:=by
     cases hod:o.dst with
     | none =>
      exact ⟨x,(fun d hd=>by cases hd),by rw [hat,hod]⟩
     | some d =>
      have hlk:slook (Ve o ((vs θ)[i]'(hvl θ)) (erOf L.toArray (Wb L (vs θ) E i) o)) d=some ((vs θ)[i]'(hvl θ)):=by
       unfold Ve;rw [hod];simp only;rw [Z9,Nat.beq_refl];rfl
      obtain ⟨y,hy,hty⟩:=ha'.tm.2 d _ hlk;refine ⟨y,fun _ _=>hy,?_⟩;rw [hat,hod];have hd2:(a.tmps.setIfInBounds d x)[d]?=some y:=by rw [<- hty,hat,hod];rfl
      rw [Array.getElem?_setIfInBounds,if_pos rfl,if_pos (Nat.lt_of_lt_of_le (hdn i o d ho hod) hI.tm)] at hd2;cases hd2;rfl
    obtain ⟨y,hy,hat'⟩:=hxt;exact ⟨θ,j+1,B',N2,H2,G',hstep hI hat' hy hs'.pre hp2 (List.getElem?_eq_some_iff.1 hej).1 hcnt' (hI.si.trans hs') hg' (hI.hx.trans hI.si.le hx') ha'.df⟩
   simp only [wpListIn] at hgo;cases hw:Region.wanted o (yielded L.toArray a.tmps) with
   | true =>
    rw [hw] at hgo;simp only [if_true] at hgo ⊢;refine Oper.wpIn_mono ?_ (Sm (fun e a w h=>h.1) hgo);rintro a' w' ⟨⟨_,h⟩,hx⟩;exact hfin a' w' hx h
   | false =>
    rw [hw] at hgo;simp only [Bool.false_eq_true,if_false] at hgo ⊢;exact ⟨hgo.1,hfin _ _ ⟨undef,J⟩ hgo.2.2⟩
 ·rintro ls a w ⟨θ,k',B',N1,H1,G1,hI⟩ hall
  have hk':k'=ef.length:=by
   rcases Nat.lt_trichotomy k' ef.length with h | h | h
   ·have he:=List.getElem?_eq_getElem h;obtain ⟨q,hqL,_⟩:=hefL k' _ he;have:=(hI.cnt k' _ he).1 (hall _ (by simpa using (List.getElem?_eq_some_iff.1 hqL).1));omega
   ·exact h
   ·exact absurd hI.kb (by omega)
  subst hk';have hl2:=hlast θ;rw [hI.ph] at hl2;simp only [Option.some.injEq,Prod.mk.injEq] at hl2;obtain ⟨e1,e2⟩:=hl2;subst e1;subst e2;refine k θ G1 hI.hx B' w a hI.si hI.gx ⟨⟨hI.tm,fun t v ht=>?_⟩,hI.df⟩;rcases Vy L (vs θ) E L.length t v (Nat.le_refl _) (hlen θ) ht with ⟨j,q,hji,hj,hvj,hd⟩ | ⟨h5,h6⟩
  ·exact hI.done j q t v hj hvj (hall j (by simpa using hji)) hd
  ·exact hI.old t v h5 (fun j q hj=>h6 j q (List.getElem?_eq_some_iff.1 hj).1 hj)
 ·refine ⟨θ0,0,B,N,H,G,by simp,h0 θ0,Nat.zero_le _,fun j e he=>?_,fun i o e _ hl=>?_,hs,⟨⟨hg.low.os,hg.low.tape,hg.low.output,hg.low.size,hg.low.block⟩,hg.new,hg.own,hg.apart⟩,hG,ha.tm.1,ha.df,fun i o d r _ _ hl _=>?_,fun t v ht _=>ha.tm.2 t v ht⟩
  ·rw [Array.getD_eq_getD_getElem?,Array.getElem?_replicate];split<;>simp
  ·rw [Array.getD_eq_getD_getElem?,Array.getElem?_replicate] at hl;split at hl<;>cases hl
  ·rw [Array.getD_eq_getD_getElem?,Array.getElem?_replicate] at hl;split at hl<;>cases hl
 ·simp
end
end S
namespace S
open Go Go.RowKit E
noncomputable def stOf (Bs:List SB):St:=⟨Bs.length,(List.range Bs.length).foldl (fun t i=>tset 14 t i Bs[i]?) .nil⟩
theorem Zac (Bs:List SB) (hl:Bs.length<=1000) (i:Nat):(stOf Bs).get i=Bs[i]?:=by
 have key:∀ (k:Nat) (t:Tr) (j0:Nat),j0+k<=1000->∀ i,tget ((List.range' j0 k).foldl (fun t i=>tset 14 t i Bs[i]?) t) i=if j0<=i/\i<j0+k then Bs[i]? else tget t i:=by
  intro k;induction k with
  | zero=>intro t j0 _ i;rw [if_neg (by omega)];rfl
  | succ k ih =>
   intro t j0 hb i;rw [List.range'_succ,List.foldl_cons,ih _ _ (by omega),R6 14 _ _ _ _ (by have:(2:Nat) ^ 14=16384:=rfl;omega)];by_cases h1:j0+1<=i/\i<j0+1+k
   ·rw [if_pos h1,if_pos (by omega)]
   ·rw [if_neg h1];by_cases h2:i=j0
    ·subst h2;rw [if_pos rfl,if_pos (by omega)]
    ·rw [if_neg h2,if_neg (by omega)]
 unfold St.get stOf;rw [List.range_eq_range',key _ _ _ (by omega)];by_cases h:i<Bs.length
 ·rw [if_pos (by omega)]
 ·rw [if_neg (by omega),List.getElem?_eq_none (by omega)];rfl
def inH (bs:List Nat) (N:Nat) (Bs:List SB):Ch:=(bs.zip Bs).map fun p=>(p.1,W4 (rho bs N) p.2)
noncomputable def outH (bs:List Nat) (N:Nat) (σ:St):Ch:=(List.range σ.n).filterMap fun i=>(σ.get i).map fun sb=>(rho bs N i,W4 (rho bs N) sb)
theorem inH_get {bs:List Nat} {N:Nat} {Bs:List SB} {i g:Nat} {sb:SB} (h1:bs[i]?=some g) (h2:Bs[i]?=some sb):(inH bs N Bs)[i]?=some (g,W4 (rho bs N) sb):=by
 unfold inH;rw [List.getElem?_map,List.getElem?_zip_eq_some (z:=(g,sb)) |>.2 ⟨h1,h2⟩];rfl
theorem E6 {bs:List Nat} {N:Nat} {Bs:List SB} (hl:bs.length=Bs.length):(inH bs N Bs).map (·.1)=bs:=by
 unfold inH;rw [List.map_map];show (bs.zip Bs).map (fun p=>p.1)=bs;exact List.map_fst_zip (by omega)
section
variable {P:Program} {f:FuncId} {args:List SV} {v:SV} {Bs:List SB} {σ':St} {bs:List Nat} {N:Nat}
theorem Rj (h:Ok P (.call f args (stOf Bs)) (.val v σ')) (hl:bs.length=Bs.length) (hlim:Bs.length<=1000) (hn:Nat.ble σ'.n 15000=true) (hn2:Nat.ble Bs.length σ'.n=true) :
  HF P f (X3 (rho bs N) args) N (inH bs N Bs) fun u N' H'=>u=ren (rho bs N) v/\N'=N+(σ'.n - bs.length)/\H'=outH bs N σ':=by
 refine ⟨h.1,fun G hs hfr=>?_⟩;have hn':=Nat.le_of_ble_eq_true hn;have hn2':=Nat.le_of_ble_eq_true hn2;have hnd:bs.Nodup:=by have:=hs.nd;rw [E6 hl] at this;exact this
 have hget:∀ i,(stOf Bs).get i=Bs[i]?:=Zac Bs hlim
 have hf:Few bs N G (stOf Bs):=by
  refine ⟨by show Bs.length=_;omega,by unfold lim;omega,hnd,fun i sb hi=>?_,fun i g hi=>?_⟩
  ·rw [hget] at hi;have hlt:i<bs.length:=by rw [hl];exact (List.getElem?_eq_some_iff.1 hi).1
   have hb:=List.getElem?_eq_getElem hlt;exact ⟨_,hb,hs.get (inH_get hb hi)⟩
  ·have hlt:i<Bs.length:=by rw [<- hl];exact (List.getElem?_eq_some_iff.1 hi).1
   exact ⟨_,by rw [hget];exact List.getElem?_eq_getElem hlt⟩
 refine (gfRun h hf).mono ?_;rintro u N' G' ⟨rfl,rfl,rfl⟩;refine ⟨_,⟨J,J,J⟩,?_⟩;rw [E6 hl]
 have hltN:∀ g,g ∈ bs->g<N:=fun g hg=>by
  rcases Nat.lt_or_ge g N with h' | h'
  ·exact h'
  ·obtain ⟨i,hi⟩:=List.mem_iff_getElem?.1 hg;obtain ⟨sb,hsb⟩:=hf.all i g hi;obtain ⟨g',hg',hG⟩:=hf.own i sb hsb;rw [hi] at hg';cases hg';rw [hfr g h'] at hG;cases hG
 have hrho:∀ i,i<σ'.n->(∃ g,bs[i]?=some g/\rho bs N i=g)\/(bs.length<=i/\rho bs N i=N+(i - bs.length)):=by
  intro i hi;rcases Nat.lt_or_ge i bs.length with h' | h'
  ·exact .inl ⟨_,List.getElem?_eq_getElem h',Qs (List.getElem?_eq_getElem h')⟩
  ·refine .inr ⟨h',?_⟩;have:=L1 (N:=N) (bs:=bs) (by unfold lim;omega) (j:=i - bs.length) (by unfold lim;omega)
   rwa [show bs.length+(i - bs.length)=i by omega] at this
 have hinj:∀ i j,i<σ'.n->j<σ'.n->rho bs N i=rho bs N j->i=j:=by
  intro i j hi hj e;rcases hrho i hi with ⟨g,h1,h2⟩ | ⟨h1,h2⟩<;>rcases hrho j hj with ⟨g',h3,h4⟩ | ⟨h3,h4⟩
  ·rw [h2,h4] at e;subst e;exact (List.getElem?_inj (List.getElem?_eq_some_iff.1 h1).1 hnd).1 (by rw [h1,h3])
  ·have:=hltN g (List.mem_of_getElem? h1);omega
  ·have:=hltN g' (List.mem_of_getElem? h3);omega
  ·omega
 refine ⟨⟨fun p hp=>?_,?_⟩,fun q sb hq hT=>?_,fun p hp=>?_,hfr⟩
 ·obtain ⟨i,hi,hpi⟩:=List.mem_filterMap.1 hp;obtain ⟨sb,hsb,rfl⟩:=Option.map_eq_some_iff.1 hpi;have hi':=List.mem_range.1 hi;show after bs N G σ' (rho bs N i)=some (W4 (rho bs N) sb);unfold after;rcases hrho i hi' with ⟨g,h1,h2⟩ | ⟨h1,h2⟩
  ·have hm:=List.mem_of_getElem? h1;rw [h2,if_pos hm]
   have:bs.idxOf g=i:=by
    have hlt:=List.idxOf_lt_length_of_mem hm;have e1:bs[bs.idxOf g]?=some g:=by rw [List.getElem?_eq_getElem hlt,List.getElem_idxOf]
    exact (List.getElem?_inj hlt hnd).1 (by rw [e1,h1])
   rw [this,hsb];rfl
  ·rw [h2,if_neg (fun hm=>by have:=hltN _ hm;omega),if_neg (by omega),if_pos (by omega),show bs.length+(N+(i - bs.length) - N)=i by omega,hsb];rfl
 ·have key:∀ l:List Nat,l.Nodup->(∀ i ∈ l,i<σ'.n)->((l.filterMap fun i=>(σ'.get i).map fun sb=>(rho bs N i,W4 (rho bs N) sb)).map (·.1)).Nodup:=by
   intro l;induction l with
   | nil=>intro _ _;simp
   | cons i l ih =>
    intro hnd2 hlt;have ih':=ih (List.nodup_cons.1 hnd2).2 (fun j hj=>hlt j (List.mem_cons_of_mem _ hj));rw [List.filterMap_cons];cases hsi:σ'.get i with
    | none=>simpa using ih'
    | some sb =>
     simp only [Option.map_some,List.map_cons,List.nodup_cons];refine ⟨fun hm=>?_,ih'⟩;obtain ⟨p,hp,e⟩:=List.mem_map.1 hm;obtain ⟨j,hj,hpj⟩:=List.mem_filterMap.1 hp;obtain ⟨sb2,hsb2,rfl⟩:=Option.map_eq_some_iff.1 hpj;have:=hinj j i (hlt j (List.mem_cons_of_mem _ hj)) (hlt i (List.mem_cons_self ..)) e;subst this;exact (List.nodup_cons.1 hnd2).1 hj
  exact key _ List.nodup_range (fun i hi=>List.mem_range.1 hi)
 ·unfold after;rw [if_neg hT,if_pos]
  ·exact hq
  ·rcases Nat.lt_or_ge q N with h' | h'
   ·exact h'
   ·rw [hfr q h'] at hq;cases hq
 ·obtain ⟨i,hi,hpi⟩:=List.mem_filterMap.1 hp;obtain ⟨sb,hsb,rfl⟩:=Option.map_eq_some_iff.1 hpi;rcases hrho i (List.mem_range.1 hi) with ⟨g,h1,h2⟩ | ⟨h1,h2⟩
  ·exact .inl (by rw [h2];exact List.mem_of_getElem? h1)
  ·exact .inr (by show N<=rho bs N i;omega)
end
def rsV:Option Rs->SV
 | some (.val v _)=>v
 | _=>.tup []
def rsS:Option Rs->St
 | some (.val _ σ)=>σ
 | _=>⟨0,.nil⟩
def isV:Option Rs->Bool
 | some (.val _ _)=>true
 | _=>false
theorem Q0 {q:Option Rs} (h:isV q=true):q=some (.val (rsV q) (rsS q)):=by
 unfold isV at h;split at h
 ·rfl
 ·cases h
section
variable {P:Program} {l:Option Nat} {n:Nat} {w0:World} {F:List Nat} {B0:Nm} {N N0:Nat} {T:List Nat} {G0:Nat->Option SB} {H:Ch} {E El:SE} {e:Exit}
theorem X6 {fn:Func} {m:List SV} {R:SV->Nat->Ch->Prop} {T:List Nat} {i b:Nat} {sb:SB} (is:List Nat) (he:e=.normal\/e=.ret) (hng:Vh P) (hi:H[i]?=some (b,sb)) (hE:V8 (rho [b] N) E El) (hr:resL P El (one (shB sb)) fn.results.toList=some (shL m)) (hn:is.Nodup) (hR:R (resV m) N (Yd H is)) :
  HQ n w0 F B0 N0 T G0 (bodyPostM (Wz none) 0 P fn (Fin B0 N0 w0 F fun v N' G'=>∃ H',R v N' H'/\Hx T N0 G0 H' G')) e E [] N H:=fun a w ⟨G,B,hG,hs,hg,ha⟩=>by
 have:=Km (σ:=one (shB sb)) hng (G2 (hG.hs.get hi)) hE hr (R:=fun v N' G'=>∃ H',R v N' H'/\Hx T N0 G0 H' G') (by rw [Sb (by unfold lim;simp)];exact ⟨_,hR,hG.pick hn⟩) hs hg ha;rcases he with rfl | rfl
 ·exact this
 ·exact this
theorem HQ_tl {A U:Ch} {p:Nat × SB} {Q:Exit->Act->World->Prop} {D:List SD} (H:Ch) (hH:H.Perm (p::(A++U))) (h:HQ n w0 F B0 N0 T G0 Q e E D N (A++(p::U))):HQ n w0 F B0 N0 T G0 Q e E D N H:=fun a w ⟨G,B,hG,hs,hg,ha⟩=>h a w ⟨G,B,hG.perm (hH.trans List.perm_middle.symm),hs,hg,ha⟩
theorem HF.less {f:FuncId} {args:List SV} {v:SV} {N1:Nat} {H1 H2:Ch} (is:List Nat) (h:HF P f args N H (fun a b c=>a=v/\b=N1/\c=H1)) (hn:is.Nodup) (h2:Yd H1 is=H2):HF P f args N H (fun a b c=>a=v/\b=N1/\c=H2):=by
 refine ⟨h.1,fun G hs hfr=>(h.2 G hs hfr).mono ?_⟩;rintro u N' G' ⟨H',⟨rfl,rfl,rfl⟩,hx⟩;exact ⟨H2,⟨J,J,J⟩,by rw [<- h2];exact hx.pick hn⟩
theorem HF.permR {f:FuncId} {args:List SV} {R R':SV->Nat->Ch->Prop} (h:HF P f args N H R) (hr:∀ v N' H1,R v N' H1->∃ H2,H1.Perm H2/\R' v N' H2):HF P f args N H R':=by
 refine ⟨h.1,fun G hs hfr=>(h.2 G hs hfr).mono ?_⟩;rintro u N' G' ⟨H1,hR,hx⟩;obtain ⟨H2,hp,hR'⟩:=hr _ _ _ hR;exact ⟨H2,hR',hx.perm hp⟩
noncomputable def mkInfo (P:Program) (t:Nat):Option (Nat × Nat × Nat × List SV):=match P.underlying t with
 | some (.slice e)=>(match P.info? e with
  | some i=>(match i.zero with
   | some z=>bif Nat.beq z.cells.size i.size&&Nat.blt 0 i.size then some (e,i.size,i.bytes,z.cells.toList.map SV.v) else none
   | none=>none)
  | none=>none)
 | _=>none
theorem al_make {E:SE} {o:Oper} {r t m c e2 sz by_:Nat} {z:List SV} {x y:Operand} (ho:o.op=.makeSlice t x y) (hx:natOf (sev E x)=some m) (hy:natOf (sev E y)=some c) (hq:mkInfo P t=some (e2,sz,by_,z)) (h1:m<=c) (h2:c*(by_+1)<=1000000):alD P E bare r o=some (.sl r 0 m 0,.row e2 sz m (szrow z m)):=by
 have q1:Nat.ble m c=true:=Nat.ble_eq_true_of_le h1;unfold mkInfo at hq;split at hq
 ·rename_i e' hu
  split at hq
  ·rename_i i hi
   split at hq
   ·rename_i z' hz
    cases hb:Nat.beq z'.cells.size i.size&&Nat.blt 0 i.size with
    | false=>rw [hb] at hq;cases hq
    | true =>
     rw [hb] at hq;cases hq;rw [Bool.and_eq_true] at hb;have q2:Nat.ble (c*(i.bytes+1)) 1000000=true:=Nat.ble_eq_true_of_le h2;unfold alD act;rw [ho];simp only [hx,hy,Option.bind_some,exMake,hu,hi,hz,q1,hb.1,hb.2,q2,Bool.and_self,cond_true,Ar.of]
   ·cases hq
  ·cases hq
 ·cases hq
end
section
variable {P:Program} {E:SE} {o:Oper} {t t':Nat} {p q:Operand} {x y:ByteArray}
theorem no_neS (ho:o.op=.binOp .neq t p q t') (ht:P.underlying t=some .string) (hx:sev E p=some (Zs x)) (hy:sev E q=some (Zs y)):noD P E bare o=some (.v (.bool (!eqS x y))):=by
 have e1:clov E p=some (.string x):=by unfold clov;rw [hx];rfl
 have e2:clov E q=some (.string y):=by unfold clov;rw [hy];rfl
 have hop:o.op.operands.toList=[p,q]:=by rw [ho];rfl
 have hpl:exPlain P E bare o=same bare (.v (.bool (!eqS x y))):=by
  unfold exPlain;rw [hop,ho];simp only [List.all_cons,List.all_nil,e1,e2,Option.isSome_some,Bool.and_self,noSel,cond_true]
  have:Wj P (execOp (fun x=>(clov E x).getD undef) o)=some (.value (.bool (!eqS x y))):=by
   simp only [execOp,ho];rw [e1,e2]
   show Wj P (do
    eqGuard BinOp.neq t p q (Value.string x) (Value.string y)
    Next.value <$> binOp BinOp.neq t (Value.string x) (Value.string y))=_
   have hb:binOp BinOp.neq t (Value.string x) (Value.string y)=pure (.bool (!eqS x y)):=by simp only [binOp,Op.stringOp,eqS_beq]
   rw [hb];rfl
  rw [this];rfl
 unfold noD act;rw [ho];simp only [hx,hy,exBin,exBin1,exEq,nilKind,ht,cond_false,hpl,same,Ar.of]
theorem no_neS0 (ho:o.op=.binOp .neq t p q t') (ht:P.underlying t=some .string) (hx:sev E p=some (Zs x)) (hy:sev E q=some (Zs x)):noD P E bare o=some (Zb false):=by rw [no_neS ho ht hx hy];simp [eqS]
end
end S
end Go.Proofs.YtpofmnfkdkmieaaGreat
