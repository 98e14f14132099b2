/- What is proved here: Main's first two steps, and so its whole -/
import Derived.Test.YtpofmnfkdkmieaaGreatQ36
import Derived.Test.YtpofmnfkdkmieaaGreatQ25
import Derived.Test.YtpofmnfkdkmieaaGreatQ17
set_option linter.unusedVariables false
set_option linter.unusedSimpArgs false
namespace Go.Proofs.YtpofmnfkdkmieaaGreat
namespace S
open Go Go.RowKit E
abbrev Lg.o (g:Lg) (oj:Nat):Lg:={ g with oj:=oj }
structure Lh where
 (N un ev ek hp:Nat) (evs code:List SV) (es:List (ByteArray × SV)) (a1 v0:SV)
structure Lh.Ok (k:Lh) (g:Lg):Prop where
 nm:NmOk g.x.ob k.es []
 no:∀ j,j<8->findS (nmL j) k.es=none
 evl:k.evs.length=k.ek*3
 evk:k.ek<=3
 code:CodeOk g.ins (fun _=>.ifc 485 (.agg [])) k.code
 body:Body (g.ins.drop 2)
 i0:g.ins[0]?=some .newO
 i1:g.ins[1]?=some .store
 tote:k.evs++Xi g.bt (g.ins.drop 2) 0 0=g.totE
 totn:2+Y1 g.bt (g.ins.drop 2) 0=g.totN
 room:g.ins.length<=k.hp+2
 hpb:k.hp<=100000
abbrev Lh.A (k:Lh) (g:Lg):Ch:=bx2 g.b7 g.b8++([(g.x.en,Zw 89 2 9 (enC g.bt g.x.bm)),(g.x.nm,.map k.es),(k.ev,.row 98 3 k.ek k.evs)]++[(g.x.ob,obB)])
def Lh.f0 (k:Lh) (g:Lg):FP:=⟨k.N,k.un,0,.sl k.ev 0 k.ek 0,Zn (k.hp+1),[(g.x.f,Zc [.ptr g.x.me 0,k.a1,Zn 0,.sl g.lo 0 1 0,Zz,Zp,Zp]),(k.un,.row 364 1 1 [.ptr g.x.f 0])]++(g.T k.code++(k.A g++[(g.lo,.row 366 1 1 [k.v0])]))⟩
noncomputable abbrev Lh.c1 (k:Lh) (g:Lg):List SV:=sput k.code (0+0*8+7) [.ifc 323 (.agg [.ptr g.x.ob 0])]
noncomputable def Lh.f1 (k:Lh) (g:Lg) (n s1 oj:Nat):FP:=⟨n,k.un,1,.sl k.ev 0 k.ek 0,Zn k.hp,[(g.x.f,Zc [.ptr g.x.me 0,Zn 0,Zn (0+1),.sl g.lo 0 1 0,.sl s1 0 1 0,Zp,Zp]),(k.un,.row 364 1 1 [.ptr g.x.f 0])]++(g.T (k.c1 g)++(k.A g++[(s1,.row 366 1 1 [.ifc 244 (.ptr oj 0)]),(g.lo,.row 366 1 1 [k.v0]),(oj,.cells [.ptr g.x.ob 0,Zz])]))⟩
section
variable {α:Type}
theorem pmKa (n o b c e v:α) (X:List α):([n,o]++([b,c,e]++(v::X))).Perm ([b,c,e,n,v,o]++X):=by
 refine (pmS [n,o] [b,c,e] (v::X)).trans (List.Perm.append_left [b,c,e] ?_);exact List.Perm.cons n (List.Perm.swap _ _ _)
theorem pmJa (n o b c e v s j l:α):([n,o]++([s,j]++[b,c,e,v,l])).Perm ([b,c,e,n,v,o]++[s,l,j]):=by
 refine (List.Perm.append_left [n,o] (pmS [s,j] [b,c,e,v] [l])).trans ((pmKa n o b c e v ([s,j]++[l])).trans (List.Perm.append_left [b,c,e,n,v,o] ?_));exact List.Perm.cons s (List.Perm.swap _ _ _)
end
inductive La (g:Lg) where
 | first | second (n s1 oj:Nat) | go (oj:Nat) (w:LwO (g.o oj))
inductive Lb (g:Lg) where
 | mk (oj:Nat) (w:LvO (g.o oj))
noncomputable def La.fp {g:Lg} (k:Lh):La g->FP
 | .first=>k.f0 g
 | .second n s1 oj=>k.f1 g n s1 oj
 | .go _ w=>w.1.fp
def Lb.fp {g:Lg}:Lb g->FP
 | .mk _ w=>w.1.fp
def La.mu {g:Lg}:La g->Nat
 | .first=>100*g.ins.length+200
 | .second _ _ _=>100*g.ins.length+100
 | .go _ w=>w.1.mu
def Lb.mu {g:Lg}:Lb g->Nat
 | .mk _ w=>w.1.mu
section
set_option maxRecDepth 10000
variable {g:Lg} {n0:Nat} {k:Lh}
theorem first_w (hg:g.Ok) (hT:TabL g.tab n0) (hk:k.Ok g):HF Tryz.prog 353 [.ptr g.x.mc 0] k.N (g.c.H 1 (k.f0 g)) fun u N' H'=>∃ n s1 oj,u=.tup []/\N'=n/\H'=g.c.H 1 (k.f1 g n s1 oj):=by
 obtain ⟨a,b,hr⟩:=hk.code.ref 0 _ hk.i0;have hlt:0<g.ins.length:=(List.getElem?_eq_some_iff.1 hk.i0).1;have h:=Hq g.x (N:=k.N) (un:=k.un) (p:=0) (q:=g.ins.length) (dn:=0) (fu:=g.fu) (ch:=g.ch) (cp:=1) (kc:=0) (hp:=k.hp) (code:=k.code) (tab:=g.tab) (es:=k.es) (evv:=.sl k.ev 0 k.ek 0) (a1:=k.a1) (a3:=.sl g.lo 0 1 0) (e0:=g.e0) (e1:=g.e1) (e2:=g.e2) (e3:=g.e3) (e4:=g.e4) (e5:=g.e5) (e6:=g.e6) (e7:=g.e7) (e8:=g.e8) (e9:=g.e9) (K:=bx2 g.b7 g.b8++[(g.x.en,Zw 89 2 9 (enC g.bt g.x.bm)),(k.ev,.row 98 3 k.ek k.evs),(g.lo,.row 366 1 1 [k.v0])]) hk.nm.top hk.hpb hlt hg.q (by have:=hg.fu;have:=hk.totn;omega) (by omega) hk.code.len (hk.code.op 0 _ hk.i0) hT.new (hk.code.tgt 0 hlt) (hk.code.put_at hlt _) hr rfl rfl rfl rfl;simp only [Lm.M,hg.m16] at h;refine HF.permR (HF.conv (K:=[]) h ?_) ?_
 ·rw [List.append_nil];refine (List.Perm.trans ?_ (pmF _ _ _ _ _ _));exact List.Perm.append_left _ (List.Perm.append_left _ (List.Perm.append_left _ (pmKa _ _ _ _ _ _ _).symm))
 ·rintro u N' H' ⟨H1,⟨ζ,rfl,rfl⟩,hpm⟩;rw [List.append_nil] at hpm;refine ⟨_,hpm.symm.trans ((pmG _ _ _ _ _ _).trans ?_),N',ζ.2.1,ζ.2.2,J,J,J⟩;exact List.Perm.append_left _ (List.Perm.append_left _ (List.Perm.append_left _ (pmJa _ _ _ _ _ _ _ _ _)))
theorem Zan (hg:g.Ok) (hk:k.Ok g) {n s1 oj:Nat}:HF Tryz.prog 353 [.ptr g.x.mc 0] n (g.c.H 1 (k.f1 g n s1 oj)) fun u N' H'=>∃ w:LwO (g.o oj),u=.tup []/\N'=w.1.N/\H'=g.c.H 1 w.1.fp/\w.1.mu<100*g.ins.length+100:=by
 have hlt:1<g.ins.length:=(List.getElem?_eq_some_iff.1 hk.i1).1;have hcd:=hk.code.put (p:=0) (by omega) (.ifc 323 (.agg [.ptr g.x.ob 0]));have h:=store_L g.x (N:=n) (un:=k.un) (p:=1) (q:=g.ins.length) (dn:=1) (fu:=g.fu) (ch:=g.ch) (cp:=1) (kc:=0) (hv:=Zn k.hp) (code:=k.c1 g) (tab:=g.tab) (evv:=.sl k.ev 0 k.ek 0) (a1:=Zn 0) (lo:=g.lo) (sk:=s1) (ln:=0) (cc:=[]) (t:=244) (w:=.ptr oj 0) (v0:=k.v0) (wa:=g.wa) (ws:=g.ws) (wm:=g.wm) (e0:=g.e0) (e1:=g.e1) (e2:=g.e2) (e3:=g.e3) (e4:=g.e4) (e5:=g.e5) (e6:=g.e6) (e7:=g.e7) (e8:=g.e8) (e9:=g.e9) (R:=k.A g) (K:=[(oj,.cells [.ptr g.x.ob 0,Zz])]) rfl (by omega) hlt hg.q (by have:=hg.fu;have:=hk.totn;omega) (by omega) (hcd.n 1 _ hk.i1) hg.tab (hcd.op 1 _ hk.i1);simp only [Lm.M,hg.m16] at h;refine HF.permR (HF.conv (K:=[]) h ?_) ?_
 ·rw [List.append_nil];exact pmF _ _ _ _ _ _
 ·rintro u N' H' ⟨H1,⟨s2,rfl,rfl⟩,hpm⟩;rw [List.append_nil] at hpm;refine ⟨_,hpm.symm.trans ((pmG _ _ _ _ _ _).trans ?_),⟨⟨N',k.un,2,k.ev,k.ek,k.hp,0,s2,0,2,k.evs,[],k.c1 g,[],k.es,Zn 1,V4 (fun _=>.ifc 485 (.agg [])) 0 (.ifc 323 (.agg [.ptr g.x.ob 0]))⟩,?_⟩,J,J,J,?_⟩
  ·refine List.Perm.append_left _ (List.Perm.append_left _ (List.Perm.append_left _ (List.Perm.append_left [_,_,_,_,_,_] ?_)));exact List.Perm.cons _ (List.Perm.swap _ _ _)
  ·refine ⟨trivial,hk.nm,fun j _ h=>hk.no j h,by simp,fun p hp=>by simp at hp,by simp,hk.evl,by have:=hk.evk;simp;omega,hcd,fun i h1 h2=>?_,fun m hm=>?_,rfl,.body hk.body,hk.tote,hk.totn,hk.room,hk.hpb⟩
   ·simp only at h1 ⊢;unfold V4;rw [if_neg (by omega)]
   ·have e:V4 (fun _=>SV.ifc 485 (.agg [])) 0 (.ifc 323 (.agg [.ptr g.x.ob 0])) 2=.ifc 485 (.agg []):=rfl
    have e2:TgAt [] m (.ifc 485 (.agg [])):=by
     cases m;all_goals first | exact Or.inl rfl | rfl
    rw [<- e] at e2;exact e2
  ·simp only [Lw.mu];show 100*(g.ins.length - 2)+_<_;omega
theorem Gz (hg:g.Ok) (hT:TabL g.tab n0) (hb8:g.b8=n0+8) (hk:k.Ok g):HF Tryz.prog 317 [.ptr g.x.mc 0] k.N (g.c.H 1 (k.f0 g)) fun u N' H'=>∃ z:Lz g,u=.tup [Zi 1,Ze]/\N'=z.N/\H'=g.c.H 0 z.fp:=by
 have hgo:∀ oj,(g.o oj).Ok:=fun oj=>⟨hg.m16,hg.tab,hg.q,hg.fu,hg.tot⟩;refine Gy (c:=g.c) (d1:=La.fp k) (d2:=Lb.fp (g:=g)) (d0:=e0 g) (mu1:=La.mu) (mu2:=Lb.mu (g:=g)) .first (fun a=>?_) (fun a=>?_)
 ·cases a with
  | first =>
   refine (first_w hg hT hk).mono ?_;rintro u N' H' ⟨n,s1,oj,h1,h2,h3⟩;exact ⟨.one (.second n s1 oj),h1,h2,h3,by show 100*g.ins.length+100<100*g.ins.length+200;omega⟩
  | second n s1 oj =>
   refine (Zan hg hk (n:=n) (s1:=s1) (oj:=oj)).mono ?_;rintro u N' H' ⟨w,h1,h2,h3,h4⟩;exact ⟨.one (.go oj w),h1,h2,h3,h4⟩
  | go oj w =>
   refine (C6 (g:=g.o oj) (hgo oj) hT hb8 w).mono ?_;rintro u N' H' ⟨s,h1,h2,h3,h4⟩;cases s with
   | one w'=>exact ⟨.one (.go oj w'),h1,h2,h3,h4⟩
   | two w'=>exact ⟨.two (.mk oj w'),h1,h2,h3,h4⟩
   | over z=>exact ⟨.over ⟨z.N,z.un,z.ev,z.ek,z.hp,z.R,z.le⟩,h1,h2,h3,h4⟩
 ·cases a with
  | mk oj w =>
   refine (Hu (g:=g.o oj) (hgo oj) w).mono ?_;rintro u N' H' ⟨s,h1,h2,h3,h4⟩;cases s with
   | one w'=>exact ⟨.one (.go oj w'),h1,h2,h3,h4⟩
   | two w'=>exact ⟨.two (.mk oj w'),h1,h2,h3,h4⟩
   | over z=>exact ⟨.over ⟨z.N,z.un,z.ev,z.ek,z.hp,z.R,z.le⟩,h1,h2,h3,h4⟩
end
end S
namespace S
open Go Go.RowKit E
theorem cut_cut {l:List SV} {o n a b:Nat} (h:a+b<=n):cutAt (cutAt l o n) a b=cutAt l (o+a) b:=by
 unfold cutAt;rw [List.drop_take,List.take_take,List.drop_drop,show min b (n - a)=b by omega]
theorem Ks {l:List SV} {o n j:Nat} (h:j<n):(cutAt l o n)[j]?=l[o+j]?:=by
 unfold cutAt;rw [List.getElem?_take,if_pos h,List.getElem?_drop]
theorem Dt {L:List (List SV)} (h:∀ x ∈ L,Is7 x):∀ (k:Nat),k<=L.length->∀ (p:Nat) (x:List SV),p<k->L[p]?=some x->cutAt (Wd L k) (p*8) 8=x++[As]
 | 0,_,p,x,hp,_=>by omega
 | k+1,hk,p,x,hp,hx=>by
  show cutAt (Wd L k++((L[k]?.getD [])++[As])) (p*8) 8=_;have hl:=Pw h k (by omega);rcases Nat.lt_or_ge p k with h1 | h1
  ·rw [<- Dt h k (by omega) p x h1 hx];unfold cutAt;rw [List.drop_append_of_le_length (by omega),List.take_append_of_le_length (by rw [List.length_drop];omega)]
  ·have:p=k:=by omega
   subst this;obtain ⟨c0,c1,c2,c3,c4,c5,c6,rfl,_⟩:=h x (List.mem_of_getElem? hx);unfold cutAt;rw [hx,<- hl,List.drop_append_of_le_length (Nat.le_refl _),List.drop_of_length_le (Nat.le_refl _)];rfl
theorem mi_ref (m:Mi) (a:Option Addr) (b:Nat):[Zs m.cl,Zs m.nm,Zl a b,Zi m.ty,Ze]=m.ref a b:=by cases m<;>rfl
theorem code_m {k:Nat} {ins:List Mi} (hlen:ins.length=k) (θ:Dl k ins):CodeOk ins (fun _=>.ifc 485 (.agg [])) (Wd θ.1.i7 k):=by
 have hl7:=θ.2.1;have h7:=θ.2.2.1
 have hrow:∀ i m,ins[i]?=some m->∃ a b,cutAt (Wd θ.1.i7 k) (0+i*8) 8=mi7 m a b++[As]:=fun i m hi=>by
  obtain ⟨a,b,hr⟩:=θ.2.2.2.1 i m hi;refine ⟨a,b,?_⟩;rw [Nat.zero_add];exact Dt h7 k (by omega) i _ (by rw [<- hl7];exact (List.getElem?_eq_some_iff.1 hr).1) hr
 refine ⟨by rw [Pw h7 k (by omega),hlen],fun i m hi=>?_,fun i m hi=>?_,fun i m hi=>?_,fun i hi=>?_⟩
 ·obtain ⟨a,b,e⟩:=hrow i m hi;rw [<- Ks (n:=8) (by omega),e];rfl
 ·obtain ⟨a,b,e⟩:=hrow i m hi;rw [show 8*i+1=0+i*8+1 by omega,<- Ks (n:=8) (by omega),e];rfl
 ·obtain ⟨a,b,e⟩:=hrow i m hi;refine ⟨a,b,?_⟩;rw [<- cut_cut (n:=8) (by omega),e,<- mi_ref];rfl
 ·obtain ⟨a,b,e⟩:=hrow i _ (List.getElem?_eq_getElem hi);rw [<- Ks (n:=8) (by omega),e];rfl
abbrev es3:List SV:=[Zi 2,Zi 0,Zs Zt,Zi 3,Zi 0,Zs Zt,Zi 4,Zi 0,Zs Zt]
section
set_option maxRecDepth 10000
variable {N mc en nm tb mt ch f me cd ob un ev b7 b8 lo wa ws wm n0 k:Nat} {bs:ByteArray} {bt:Nat->Bool} {ins r0:List Mi} {tab code:List SV} {es:List (ByteArray × SV)} {m1 m2 m3 m4 m14 e0 e1 e2 e3 e4 e5 e6 e7 e8 e9:SV}
theorem Zct (hlen:ins.length=k) (hk:k<=200) (hc:CodeOk ins (fun _=>.ifc 485 (.agg [])) code) (hb:Body r0) (hi:ins=.newO::.store::r0) (ht:TabOk tab wa ws wm) (hT:TabL tab n0) (hb8:b8=n0+8) (hnm:findS (spL 0) es=some (.ifc 323 (.agg [.ptr ob 0]))) (hno:∀ j,j<8->findS (nmL j) es=none) (hN:2+Y1 bt r0 0<5000) :
  HF Tryz.prog 317 [.ptr mc 0] N [(mc,.cells [.sl en 0 9 0,m1,m2,m3,m4,Zi 2,.fn 25 [] [],.fn 18 [] [],.sl tb 0 33 0,.mp nm,Zz,.sl un 0 1 0,.ptr mt 0,Zi 10000,m14,.sl ev 0 3 0,Zp]),(mt,.cells [Zi 5000,Zi 0,.ch ch]),(ch,.chan 1 0),(f,.cells [.ptr me 0,Zi 0,Zi 0,.sl lo 0 1 0,Zz,Zp,Zp]),(un,.row 364 1 1 [.ptr f 0]),(me,.cells [e0,e1,e2,e3,e4,e5,e6,e7,e8,e9,.sl cd 0 k 0]),(cd,.row 475 8 k code),(tb,.row 307 7 33 tab),(b8,.cells [.fn 299 [] [.ptr b7 0]]),(b7,.cells [Zb true]),(en,.row 89 2 9 (enC bt bs)),(nm,.map es),(ev,.row 98 3 3 es3),(ob,obB),(lo,.row 366 1 1 [Zf])]
   fun u N' H'=>∃ (un ev ek hp:Nat) (R:Ch),u=.tup [Zi 1,Ze]/\H'=[(mc,.cells [.sl en 0 9 0,m1,m2,m3,m4,Zi 2,.fn 25 [] [],.fn 18 [] [],.sl tb 0 33 0,.mp nm,Zz,.sl un 0 0 0,.ptr mt 0,Zn hp,m14,.sl ev 0 ek 0,Zp]),(mt,.cells [Zi 5000,Zn (2+Y1 bt r0 0),.ch ch]),(ch,.chan 1 0),(ev,.row 98 3 ek (es3++Xi bt r0 0 0))]++R/\(es3++Xi bt r0 0 0).length=ek*3:=by
 subst hlen;let g:Lg:=⟨⟨mc,en,nm,tb,mt,f,me,cd,ob,bs,m1,m2,m3,m4,m14,Zp⟩,bt,ins,tab,b7,b8,lo,0,ch,5000,wa,ws,wm,e0,e1,e2,e3,e4,e5,e6,e7,e8,e9,es3++Xi bt r0 0 0,2+Y1 bt r0 0⟩;let w:Lh:=⟨N,un,ev,3,9999,es3,code,es,Zi 0,Zf⟩;have hd:ins.drop 2=r0:=by rw [hi];rfl
 have hg:g.Ok:=⟨rfl,ht,by show ins.length<=1000;omega,hN,by show 2+Y1 bt r0 0<=100000;omega⟩;have hw:w.Ok g:=⟨⟨hnm,fun j hj=>by simp at hj⟩,hno,rfl,Nat.le_refl _,hc,by show Body (ins.drop 2);rw [hd];exact hb,by show ins[0]?=_;rw [hi];rfl,by show ins[1]?=_;rw [hi];rfl,by show es3++Xi bt (ins.drop 2) 0 0=_;rw [hd],by show 2+Y1 bt (ins.drop 2) 0=_;rw [hd],by show ins.length<=_;show ins.length<=9999+2;omega,by show 9999<=100000;omega⟩;refine (Gz hg hT hb8 hw).mono ?_;rintro u N' H' ⟨z,rfl,rfl,rfl⟩;exact ⟨z.un,z.ev,z.ek,z.hp,z.R,J,J,z.le⟩
end
end S
namespace S
open Go Go.RowKit E
section
set_option maxRecDepth 10000
variable {N mc ob me cd tb mt ch nm dc dm k c mr ev en b7 b8 wa ws wm n0:Nat} {bs:ByteArray} {bt:Nat->Bool} {fp zp hp gp:Option Addr} {fq zq hq gq:Nat} {cod code tab:List SV} {es:List (ByteArray × SV)} {ins r0:List Mi} {m1 m2 m3 m4:SV}
theorem Cg (hC:∀ N,HF Tryz.prog 18 [.agg [Zs Zt,Zs (nmB 0),Zl fp fq,.sl dm 0 1 0]] N [(dm,.row 134 10 1 [Zs Z4,Zb true,Zl zp zq,Zi 0,Ze,Zi 1,Zi 1,.sl dc 0 k 0,Zl hp hq,Zl gp gq]),(dc,.row 75 7 k cod)] fun u N' H'=>∃ κ:Kv,u=.tup [Zl κ.cp κ.cq,Zi κ.a,Zi κ.b,Zi 0]/\N'=N/\H'=[(dm,.row 134 10 1 [Zs Z4,Zb true,Zl zp zq,Zi 0,Ze,Zi 1,Zi 1,.sl dc 0 k 0,Zl hp hq,Zl gp gq]),(dc,.row 75 7 k cod)]) (hlen:ins.length=k) (hk:k<=200) (hb:Body r0) (hi:ins=.newO::.store::r0) (hN:2+Y1 bt r0 0<5000) (hc:CodeOk ins (fun _=>.ifc 485 (.agg [])) code) (ht:TabOk tab wa ws wm) (hT:TabL tab n0) (hb8:b8=n0+8) (hnm:findS (spL 0) es=some (.ifc 323 (.agg [.ptr ob 0]))) (hno:∀ j,j<8->findS (nmL j) es=none) :
  HF Tryz.prog 241 [.ptr mc 0,.agg [.ptr c 0,.ptr me 0]] N [(mc,Zc [.sl en 0 9 0,m1,m2,m3,m4,Zi 2,.fn 25 [] [],.fn 18 [] [],.sl tb 0 33 0,.mp nm,Zz,Zz,.ptr mt 0,Zi 10000,Zi 0,.sl ev 0 1 0,Zp]),(ev,Zw 98 3 1 [Zi 2,Zi 0,Zs Zt]),(c,Zc [Zs Zt,.ptr ob 0,Zs Zt,Zs (nmB 0),Zl fp fq,.sl dm 0 1 0,Zi 0,Zz,.sl mr 0 1 0,Zz,Zz]),(mr,Zw 329 1 1 [.ptr me 0]),(me,Zc [Zs Z4,Zb true,Zl zp zq,Zi 0,Ze,Zi 1,Zi 1,.sl dc 0 k 0,Zl hp hq,Zl gp gq,.sl cd 0 k 0]),(ob,obB),(dm,Zw 134 10 1 [Zs Z4,Zb true,Zl zp zq,Zi 0,Ze,Zi 1,Zi 1,.sl dc 0 k 0,Zl hp hq,Zl gp gq]),(dc,Zw 75 7 k cod),(cd,Zw 475 8 k code),(tb,Zw 307 7 33 tab),(mt,Zc [Zi 5000,Zi 0,.ch ch]),(ch,SB.chan 1 0),(b8,Zc [.fn 299 [] [.ptr b7 0]]),(b7,Zc [Zb true]),(en,Zw 89 2 9 (enC bt bs)),(nm,SB.map es)] fun u N' H'=>∃ (un ev ek hp:Nat) (R:Ch),u=.tup [Zi 1,Ze]/\H'=[(mc,Zc [.sl en 0 9 0,m1,m2,m3,m4,Zi 2,.fn 25 [] [],.fn 18 [] [],.sl tb 0 33 0,.mp nm,Zz,.sl un 0 0 0,.ptr mt 0,Zn hp,Zi 0,.sl ev 0 ek 0,Zp]),(mt,.cells [Zi 5000,Zn (2+Y1 bt r0 0),.ch ch]),(ev,.row 98 3 ek (es3++Xi bt r0 0 0))]++R/\(es3++Xi bt r0 0 0).length=ek*3:=by
 refine hf1 Tryz.func241 J Tryz.ntmps241 fun _ _ _ _=>?_;refine Zd (Zy 3 [] [(3,Zq N 0),(4,Zi 0),(5,Zs ((ByteArray.mk #[])))] [] (N+1) [(N,Zc [Zq c 0,Zq me 0])] [] (Z1 (Zd (Za 1 [] [(6,Zb false)] [] (Zg (Zv (Yv (Yg ?_))))))));refine Z2 (Zd (Za 2 [] [(9,Zb true)] [] (Zg (Yj J (Ya (Zr (Zv (Zd (Za 1 [] [(7,Zp)] [] (Z1 (Zd (Za 3 [0] [(11,Zq mc 0),(13,Zq c 0)] [] (Yn [1,2,3,4,5,6,7,8] [8,7,6,5,4,3,2,1] Zj J J J J (start_m hC) ?_)))))))))))));rintro _ N1 _ ⟨ev2,rfl,rfl⟩;refine ⟨_,J,?_⟩;refine Za 5 [] [(7,Zp),(6,Zb false)] [] (Zx (Za 2 [] [(18,Zb false)] [] (Zg (Z6 J (Ya (Yh (Za 1 [] [(27,Zq mc 0)] [] (Z0 [0] [0] Zj J J J J (Pe) J (Za 5 [] [(4,Zi 1),(5,Ze)] [] ?_)))))))));refine Zx (Za 2 [] [(32,Zb false)] [] (Zg (Z6 J (Ya (Yb (Zr (Yg (Z2 (Zd (Za 2 [] [(9,Zb true)] [] (Zg (Yj J (Ya (Zr (Zv (Zd (Za 1 [] [(7,Zp)] [] (Z1 (Zd (Za 3 [8] [(11,Zq mc 0),(13,Zq c 0)] [] (Z0 [2] [2] Zj J J J J (P2) J (Za 5 [] [(7,Zp),(6,Zb true)] [] (Zx (Za 2 [] [(18,Zb false)] [] (Zg (Z6 J (Ya (Yh (Za 1 [] [(27,Zq mc 0)] [] ?_)))))))))))))))))))))))))))));refine Z0 [1] [1] Zj J J J J (Pe) J (Za 5 [] [(4,Zi 1),(5,Ze)] [] ?_);refine Zx (Za 2 [] [(32,Zb false)] [] (Zg (Z6 J (Ya (Yb (Zr (Yg (Z2 (Zd (Za 2 [] [(9,Zb false)] [] (Zg (Z6 J (Yz (Z8 (Z8 (Xb (z:=.exit _) J (Yi (Yh (Za 3 [8] [(35,Zq mc 0),(37,Zq me 0)] [] (Z0 [0,4] [4,0] Zj J J J J (begin_m) J (Zx (Za 1 [] [(39,Zq mc 0)] [] (Yn [0,14,15,3,2,1,12,13,16,17,18,19,6,8,4] [19,18,17,16,15,14,13,12,8,6,4,3,2,1,0] Zj J J J J (Zct hlen hk hc hb hi ht hT hb8 hnm hno hN) ?_)))))))))))))))))))))));rintro _ N2 _ ⟨un,ev3,ek,hp2,R,rfl,rfl,hfe⟩;refine ⟨_,J,?_⟩;refine Za 4 [] [(4,Zi 1),(5,Ze)] [] ?_;refine Zg (Yc (Wk 9 [0,1,3] (.inr J) Zj J ?_));exact ⟨un,ev3,ek,hp2,_,J,J,hfe⟩
theorem run_m (hD:∀ N,HF Tryz.prog 25 [Zs bs] N [] fun u N' H'=>∃ θ:Dl k ins,u=.tup [.agg [Zs Zt,Zs (nmB 0),Zl θ.1.fp θ.1.fq,.sl (N+1) 0 1 0],Zi 0]/\N'=N+2/\H'=[(N+1,.row 134 10 1 [Zs Z4,Zb true,Zl θ.1.zp θ.1.zq,Zi 0,Ze,Zi 1,Zi 1,.sl N 0 k 0,Zl θ.1.hp θ.1.hq,Zl θ.1.gp θ.1.gq]),(N,.row 75 7 k θ.1.i7.flatten)]) (hC:∀ (θ:Dl k ins) (dm dc N:Nat),HF Tryz.prog 18 [.agg [Zs Zt,Zs (nmB 0),Zl θ.1.fp θ.1.fq,.sl dm 0 1 0]] N [(dm,.row 134 10 1 [Zs Z4,Zb true,Zl θ.1.zp θ.1.zq,Zi 0,Ze,Zi 1,Zi 1,.sl dc 0 k 0,Zl θ.1.hp θ.1.hq,Zl θ.1.gp θ.1.gq]),(dc,.row 75 7 k θ.1.i7.flatten)] fun u N' H'=>∃ κ:Kv,u=.tup [Zl κ.cp κ.cq,Zi κ.a,Zi κ.b,Zi 0]/\N'=N/\H'=[(dm,.row 134 10 1 [Zs Z4,Zb true,Zl θ.1.zp θ.1.zq,Zi 0,Ze,Zi 1,Zi 1,.sl dc 0 k 0,Zl θ.1.hp θ.1.hq,Zl θ.1.gp θ.1.gq]),(dc,.row 75 7 k θ.1.i7.flatten)]) (hlen:ins.length=k) (hk:k<=200) (hb:Body r0) (hi:ins=.newO::.store::r0) (hN:2+Y1 bt r0 0<5000) (ht:TabOk tab wa ws wm) (hT:TabL tab n0) (hb8:b8=n0+8) (hn:findS Zt es=none) (hs:findS (nmB 0) es=some (.ifc 323 (.agg [.ptr ob 0]))) (hno:∀ j,j<8->findS (nmL j) es=none) :
  HF Tryz.prog 130 [.ptr mc 0,Zs Zt] N [(mc,Zc [.sl en 0 9 0,m1,m2,m3,m4,Zi 2,.fn 25 [] [],.fn 18 [] [],.sl tb 0 33 0,.mp nm,Zz,Zz,.ptr mt 0,Zi 10000,Zi 0,Zz,Zp]),(nm,SB.map es),(ob,obB),(tb,Zw 307 7 33 tab),(mt,Zc [Zi 5000,Zi 0,.ch ch]),(ch,SB.chan 1 0),(b8,Zc [.fn 299 [] [.ptr b7 0]]),(b7,Zc [Zb true]),(en,Zw 89 2 9 (enC bt bs))] fun u N' H'=>∃ (un ev ek hp:Nat) (R:Ch),u=.tup [Zi 1,Ze]/\H'=[(mc,Zc [.sl en 0 9 0,m1,m2,m3,m4,Zi 2,.fn 25 [] [],.fn 18 [] [],.sl tb 0 33 0,.mp nm,Zz,.sl un 0 0 0,.ptr mt 0,Zn hp,Zi 0,.sl ev 0 ek 0,Zp]),(mt,.cells [Zi 5000,Zn (2+Y1 bt r0 0),.ch ch]),(ev,.row 98 3 ek (es3++Xi bt r0 0 0))]++R/\(es3++Xi bt r0 0 0).length=ek*3:=by
 have hnM:∀ j,j<8->nmL j≠Zt:=fun j hj e=>by
  have:=congrArg ByteArray.size e;revert this;show (1=4)->False;decide
 have hoM:nmB 0≠Zt:=fun e=>by
  have:=congrArg ByteArray.size e;revert this;show (6=4)->False;decide
 refine hf1 Tryz.func130 J Tryz.ntmps130 fun _ _ _ _=>?_;refine Zd (Za 2 [] [(4,Zi 0),(5,Zs ((ByteArray.mk #[])))] [] (Z1 (Zd (Za 2 [] [(8,Zq mc 0),(9,Zs Zt)] [] (Yn [0,8,1,2] [8,2,1,0] Zj J J J J (main_m hlen (by omega) hD hn hoM hs) ?_)))));rintro _ N1 _ ⟨θ,w,c,mr,me,cd,dm,dc,ev,rfl,rfl⟩;refine ⟨_,J,?_⟩;refine Zg (Zv (Zd (Za 3 [] [(12,Zb false),(13,SV.agg [Ze])] [] ?_)));refine Zg (Z6 J (Zd (Za 3 [] [(17,Zb true),(18,SV.agg [Zq c 0,Zq me 0])] [] (Zg (Yj J (Zd (Zy 2 [0] [(7,Zq N1 0)] [] (N1+1) [(N1,Zc [Zq c 0,Zq me 0])] [] (Zg (Zo (Za 2 [0] [(20,Zq mc 0),(21,SV.agg [Zq c 0,Zq me 0])] [] ?_))))))))));refine Yn [1,11,5,6,7,4,9,10,8,12,13,14,15,16,2,3] [16,15,14,13,12,11,10,9,8,7,6,5,4,3,2,1] Zj J J J J (Cg (hC θ dm dc) hlen hk hb hi hN (code_m hlen θ) ht hT hb8 (by rw [Xw (by exact hoM),Xw (by exact hoM)];exact hs) (fun j hj=>by rw [Xw (hnM j hj),Xw (hnM j hj)];exact hno j hj)) ?_;rintro _ N2 _ ⟨un,ev3,ek,hp2,R,rfl,rfl,hfe⟩;refine ⟨_,J,?_⟩;refine Za 5 [] [(4,Zi 1),(5,Ze)] [] ?_;refine Z7 (Yb (Yh (Za 4 [] [(4,Zi 1),(5,Ze)] [] ?_)));refine Zg (Yc (Wk 4 [0,1,2] (.inr J) Zj J ?_));exact ⟨un,ev3,ek,hp2,_,J,J,hfe⟩
theorem Zaq {U:Ch} (hD:∀ N,HF Tryz.prog 25 [Zs bs] N [] fun u N' H'=>∃ θ:Dl k ins,u=.tup [.agg [Zs Zt,Zs (nmB 0),Zl θ.1.fp θ.1.fq,.sl (N+1) 0 1 0],Zi 0]/\N'=N+2/\H'=[(N+1,.row 134 10 1 [Zs Z4,Zb true,Zl θ.1.zp θ.1.zq,Zi 0,Ze,Zi 1,Zi 1,.sl N 0 k 0,Zl θ.1.hp θ.1.hq,Zl θ.1.gp θ.1.gq]),(N,.row 75 7 k θ.1.i7.flatten)]) (hC:∀ (θ:Dl k ins) (dm dc N:Nat),HF Tryz.prog 18 [.agg [Zs Zt,Zs (nmB 0),Zl θ.1.fp θ.1.fq,.sl dm 0 1 0]] N [(dm,.row 134 10 1 [Zs Z4,Zb true,Zl θ.1.zp θ.1.zq,Zi 0,Ze,Zi 1,Zi 1,.sl dc 0 k 0,Zl θ.1.hp θ.1.hq,Zl θ.1.gp θ.1.gq]),(dc,.row 75 7 k θ.1.i7.flatten)] fun u N' H'=>∃ κ:Kv,u=.tup [Zl κ.cp κ.cq,Zi κ.a,Zi κ.b,Zi 0]/\N'=N/\H'=[(dm,.row 134 10 1 [Zs Z4,Zb true,Zl θ.1.zp θ.1.zq,Zi 0,Ze,Zi 1,Zi 1,.sl dc 0 k 0,Zl θ.1.hp θ.1.hq,Zl θ.1.gp θ.1.gq]),(dc,.row 75 7 k θ.1.i7.flatten)]) (hlen:ins.length=k) (hk:k<=200) (hb:Body r0) (hi:ins=.newO::.store::r0) (hN:2+Y1 bt r0 0<5000) (ht:TabOk tab wa ws wm) (hT:TabL tab n0) (hb8:b8=n0+8) (hn:findS Zt es=none) (hs:findS (nmB 0) es=some (.ifc 323 (.agg [.ptr ob 0]))) (hno:∀ j,j<8->findS (nmL j) es=none) :
  HF Tryz.prog 130 [.ptr mc 0,Zs Zt] N ([(mc,Zc [.sl en 0 9 0,m1,m2,m3,m4,Zi 2,.fn 25 [] [],.fn 18 [] [],.sl tb 0 33 0,.mp nm,Zz,Zz,.ptr mt 0,Zi 10000,Zi 0,Zz,Zp]),(nm,SB.map es),(ob,obB),(tb,Zw 307 7 33 tab),(mt,Zc [Zi 5000,Zi 0,.ch ch]),(ch,SB.chan 1 0),(b8,Zc [.fn 299 [] [.ptr b7 0]]),(b7,Zc [Zb true]),(en,Zw 89 2 9 (enC bt bs))]++U) fun u N' H'=>∃ (un ev ek hp:Nat) (R:Ch),u=.tup [Zi 1,Ze]/\H'=[(mc,Zc [.sl en 0 9 0,m1,m2,m3,m4,Zi 2,.fn 25 [] [],.fn 18 [] [],.sl tb 0 33 0,.mp nm,Zz,.sl un 0 0 0,.ptr mt 0,Zn hp,Zi 0,.sl ev 0 ek 0,Zp]),(mt,.cells [Zi 5000,Zn (2+Y1 bt r0 0),.ch ch]),(ev,.row 98 3 ek (es3++Xi bt r0 0 0))]++(R++U)/\(es3++Xi bt r0 0 0).length=ek*3:=by
 refine (HF.behind U (run_m hD hC hlen hk hb hi hN ht hT hb8 hn hs hno)).mono ?_;rintro u N' H' ⟨H1,⟨un,ev,ek,hp,R,h1,rfl,h3⟩,rfl⟩;exact ⟨un,ev,ek,hp,R,h1,List.append_assoc _ _ _,h3⟩
end
end S
end Go.Proofs.YtpofmnfkdkmieaaGreat
