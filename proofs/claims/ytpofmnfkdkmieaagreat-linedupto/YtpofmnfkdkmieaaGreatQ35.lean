/- What is proved here: Main's first step: an Object is made. -/
import Derived.Test.YtpofmnfkdkmieaaGreatQ34
import Derived.Test.YtpofmnfkdkmieaaGreatQ17
set_option linter.unusedVariables false
set_option linter.unusedSimpArgs false
namespace Go.Proofs.YtpofmnfkdkmieaaGreat
namespace S
open Go Go.RowKit E
section
set_option maxRecDepth 10000
variable {N un p q dn fu ch cp kc hp:Nat} {code tab:List SV} {es:List (ByteArray × SV)} {evv a1 a3 r1 r2 r3 r4 e0 e1 e2 e3 e4 e5 e6 e7 e8 e9:SV} {K:Ch}
theorem look_ob (x:Lm) (hf:findS (spL 0) es=some (.ifc 323 (.agg [.ptr x.ob 0]))) (hp':p<q) (hq:q<=1000) (hl:code.length=q*8) (hc:code[0+p*8+7]?=some (.ifc 485 (.agg []))) (hr:cutAt code (0+p*8+2) 5=[Zs (spL 0),r1,r2,r3,r4]) (g1:sOne r1=true) (g2:sOne r2=true) (g3:sOne r3=true) (g4:sOne r4=true) :
  HF Tryz.prog 395 [.ptr x.mc 0,.agg [.fn 213 [] [],.v .nilFunc,Zb true,.v .nilFunc,.fn 214 [] [],.v .nilFunc,.v .nilFunc],.ptr x.cd (0+p*8)] N ([(x.cd,.row 475 8 q code)]++([(x.mc,x.M (.sl un 0 1 0) evv (Zn (hp+1))),(x.nm,SB.map es)]++K)) fun u N' H'=>∃ n:Nat,u=.tup []/\N'=n/\H'=[(x.cd,.row 475 8 q (sput code (0+p*8+7) [.ifc 323 (.agg [.ptr x.ob 0])]))]++([(x.mc,x.M (.sl un 0 1 0) evv (Zn (hp+1))),(x.nm,SB.map es)]++K) :=
 P6 (Θ:=Nat) 0 (U:=[(x.mc,x.M (.sl un 0 1 0) evv (Zn (hp+1))),(x.nm,SB.map es)]++K) (U1:=fun _=>[(x.mc,x.M (.sl un 0 1 0) evv (Zn (hp+1))),(x.nm,SB.map es)]++K) (tt:=fun _=>323) (tx:=fun _=>.agg [.ptr x.ob 0]) (nn:=fun n=>n) hp' hq rfl rfl rfl rfl rfl rfl hl hc hr fun N=>by
  refine (O0 (R:=fun u N' H'=>u=.ifc 323 (.agg [.ptr x.ob 0])/\H'=[(x.mc,x.M (.sl un 0 1 0) evv (Zn (hp+1))),(x.nm,SB.map es)]++K) g1 g2 g3 g4 fun N=>(HF.fr K (Ut (mc:=x.mc) (nm:=x.nm) (m0:=.sl x.en 0 9 0) (m1:=x.m1) (m2:=x.m2) (m3:=x.m3) (m4:=x.m4) (m5:=Zi 2) (m6:=.fn 25 [] []) (m7:=.fn 18 [] []) (m8:=.sl x.tb 0 33 0) (m10:=Zz) (m11:=.sl un 0 1 0) (m12:=.ptr x.mt 0) (m13:=(Zn (hp+1))) (m14:=x.m14) (m15:=evv) (m16:=x.m16) hf)).mono ?_).mono ?_
  ·rintro u N' H' ⟨rfl,rfl,rfl⟩;exact ⟨_,_,J,J,J⟩
  ·rintro u N' H' ⟨t,y,rfl,h1,h2⟩;exact ⟨N',h1,J,h2⟩
theorem Zdw (x:Lm) (hf:findS (spL 0) es=some (.ifc 323 (.agg [.ptr x.ob 0]))) (hhp:hp<=100000) (hp':p<q) (hq:q<=1000) (hl:code.length=q*8) (hop:code[0+p*8+0]?=some (Zn 15)) (ht:cutAt tab (0+15*7) 7=[.fn 213 [] [],.v .nilFunc,Zb true,.v .nilFunc,.fn 214 [] [],.v .nilFunc,.v .nilFunc]) (hc:code[0+p*8+7]?=some (.ifc 485 (.agg []))) (hc1:(sput code (0+p*8+7) [.ifc 323 (.agg [.ptr x.ob 0])])[0+p*8+7]?=some (.ifc 323 (.agg [.ptr x.ob 0]))) (hr:cutAt code (0+p*8+2) 5=[Zs (spL 0),r1,r2,r3,r4]) (g1:sOne r1=true) (g2:sOne r2=true) (g3:sOne r3=true) (g4:sOne r4=true) :
  HF Tryz.prog 383 [.ptr x.mc 0,.ptr x.f 0] N ([(x.mc,x.M (.sl un 0 1 0) evv (Zn (hp+1))),(x.f,.cells [.ptr x.me 0,Zn p,Zn (p+1),a3,Zz,Zp,Zp]),(x.me,Zc [e0,e1,e2,e3,e4,e5,e6,e7,e8,e9,.sl x.cd 0 q 0]),(x.cd,.row 475 8 q code),(x.tb,.row 307 7 33 tab)]++([(x.nm,SB.map es),(x.ob,obB)]++K)) fun u N' H'=>∃ (_:Nat) (ζ:Nat × Nat × Nat),u=.tup [Zp,Zb true]/\H'=[(x.mc,x.M (.sl un 0 1 0) evv (Zn hp)),(x.f,.cells [.ptr x.me 0,Zn p,Zn (p+1),a3,.sl ζ.2.1 0 1 0,Zp,Zp]),(x.me,Zc [e0,e1,e2,e3,e4,e5,e6,e7,e8,e9,.sl x.cd 0 q 0]),(x.cd,.row 475 8 q (sput code (0+p*8+7) [.ifc 323 (.agg [.ptr x.ob 0])])),(x.tb,.row 307 7 33 tab)]++([(x.nm,SB.map es),(x.ob,obB)]++([(ζ.2.1,Zw 366 1 1 [.ifc 244 (.ptr ζ.2.2 0)]),(ζ.2.2,Zc [.ptr x.ob 0,Zz])]++K)):=by
 refine O4 (Θ:=Nat) (Z:=Nat × Nat × Nat) (z0:=(0,0,0)) (nn:=fun _ ζ=>ζ.1) (c:=fun _=>x.ob) (code1:=fun _=>(sput code (0+p*8+7) [.ifc 323 (.agg [.ptr x.ob 0])])) (MC1:=fun _=>x.M (.sl un 0 1 0) evv (Zn (hp+1))) (U:=[(x.nm,SB.map es),(x.ob,obB)]++K) (U1:=fun _=>[(x.nm,SB.map es),(x.ob,obB)]++K) (MC2:=fun _ _=>x.M (.sl un 0 1 0) evv (Zn hp)) (FR2:=fun _ ζ=>.cells [.ptr x.me 0,Zn p,Zn (p+1),a3,.sl ζ.2.1 0 1 0,Zp,Zp]) (U2:=fun _ ζ=>[(x.nm,SB.map es),(x.ob,obB)]++([(ζ.2.1,Zw 366 1 1 [.ifc 244 (.ptr ζ.2.2 0)]),(ζ.2.2,Zc [.ptr x.ob 0,Zz])]++K)) hp' hq hop (by decide) J J J J ht (fun _=>hc1) (fun N=>?_) (fun θ N=>?_) (fun θ N=>?_)
 ·exact (look_ob x (K:=[(x.ob,obB)]++K) hf hp' hq hl hc hr g1 g2 g3 g4).mono fun u N' H' ⟨n,h1,_,h3⟩=>⟨n,h1,h3⟩
 ·exact HF.stay (K:=[(x.mc,x.M (.sl un 0 1 0) evv (Zn (hp+1))),(x.nm,SB.map es)]++K) ((P2 (mc:=x.mc) (c:=x.ob)).mono fun u N' H' h=>⟨h.1,h.2.2⟩) (pmS [(x.mc,x.M (.sl un 0 1 0) evv (Zn (hp+1))),(x.nm,SB.map es)] [(x.ob,obB)] K)
 ·refine (Rm (R:=fun _ N' H'=>∃ ζ:Nat × Nat × Nat,N'=ζ.1/\H'=[(x.mc,x.M (.sl un 0 1 0) evv (Zn hp)),(x.f,.cells [.ptr x.me 0,Zn p,Zn (p+1),a3,.sl ζ.2.1 0 1 0,Zp,Zp])]++([(x.nm,SB.map es),(x.ob,obB)]++([(ζ.2.1,Zw 366 1 1 [.ifc 244 (.ptr ζ.2.2 0)]),(ζ.2.2,Zc [.ptr x.ob 0,Zz])]++K))) J J J J J J (fun N=>?_)).mono ?_
  ·refine HF.permR (HF.conv (K:=[(x.nm,SB.map es)]++K) (Zcd (mc:=x.mc) (f:=x.f) (c:=x.ob) (N:=N) (m0:=.sl x.en 0 9 0) (m1:=x.m1) (m2:=x.m2) (m3:=x.m3) (m4:=x.m4) (m5:=Zi 2) (m6:=.fn 25 [] []) (m7:=.fn 18 [] []) (m8:=.sl x.tb 0 33 0) (m9:=.mp x.nm) (m10:=Zz) (m11:=.sl un 0 1 0) (m12:=.ptr x.mt 0) (m14:=x.m14) (m15:=evv) (m16:=x.m16) (a0:=.ptr x.me 0) (a1:=Zn p) (a2:=Zn (p+1)) (a3:=a3) (a5:=Zp) (a6:=Zp) hhp) (List.Perm.append_left [(x.mc,x.M (.sl un 0 1 0) evv (Zn (hp+1))),(x.f,Zc [.ptr x.me 0,Zn p,Zn (p+1),a3,Zz,Zp,Zp])] (pmS [(x.nm,SB.map es)] [(x.ob,obB)] K))) ?_;rintro u N' H' ⟨H1,⟨oj,s1,rfl,rfl⟩,hpm⟩;refine ⟨_,hpm.symm.trans ?_,J,⟨N',s1,oj⟩,J,J⟩;exact (Xz (H:=[(x.mc,x.M (.sl un 0 1 0) evv (Zn hp)),(x.f,Zc [.ptr x.me 0,Zn p,Zn (p+1),a3,.sl s1 0 1 0,Zp,Zp]),(s1,Zw 366 1 1 [.ifc 244 (.ptr oj 0)]),(x.ob,obB),(oj,Zc [.ptr x.ob 0,Zz]),(x.nm,SB.map es)]) (ds:=[0,1,2,3,4,5]) (is:=[0,1,5,3,2,4]) (by decide)).append_right K
  ·rintro u N' H' ⟨rfl,ζ,rfl,rfl⟩;exact ⟨ζ,J,J,J⟩
theorem Hq (x:Lm) (hf:findS (spL 0) es=some (.ifc 323 (.agg [.ptr x.ob 0]))) (hhp:hp<=100000) (hp':p<q) (hq:q<=1000) (hd:(dn:Int)+1≠fu) (hdb:dn<=100000) (hl:code.length=q*8) (hop:code[0+p*8+0]?=some (Zn 15)) (ht:cutAt tab (0+15*7) 7=[.fn 213 [] [],.v .nilFunc,Zb true,.v .nilFunc,.fn 214 [] [],.v .nilFunc,.v .nilFunc]) (hc:code[0+p*8+7]?=some (.ifc 485 (.agg []))) (hc1:(sput code (0+p*8+7) [.ifc 323 (.agg [.ptr x.ob 0])])[0+p*8+7]?=some (.ifc 323 (.agg [.ptr x.ob 0]))) (hr:cutAt code (0+p*8+2) 5=[Zs (spL 0),r1,r2,r3,r4]) (g1:sOne r1=true) (g2:sOne r2=true) (g3:sOne r3=true) (g4:sOne r4=true) :
  HF Tryz.prog 353 [.ptr x.mc 0] N ([(x.mc,x.M (.sl un 0 1 0) evv (Zn (hp+1))),(x.f,.cells [.ptr x.me 0,a1,Zn p,a3,Zz,Zp,Zp]),(un,Zw 364 1 1 [.ptr x.f 0]),(x.mt,.cells [Zi fu,Zn (dn),.ch ch]),(ch,.chan cp kc)]++([(x.me,Zc [e0,e1,e2,e3,e4,e5,e6,e7,e8,e9,.sl x.cd 0 q 0]),(x.cd,.row 475 8 q code),(x.tb,.row 307 7 33 tab)]++([(x.nm,SB.map es),(x.ob,obB)]++K))) fun u N' H'=>∃ ζ:Nat × Nat × Nat,u=.tup []/\H'=[(x.mc,x.M (.sl un 0 1 0) evv (Zn hp)),(x.f,.cells [.ptr x.me 0,Zn p,Zn (p+1),a3,.sl ζ.2.1 0 1 0,Zp,Zp]),(x.mt,.cells [Zi fu,Zn (dn+1),.ch ch]),(ch,.chan cp kc)]++([(un,Zw 364 1 1 [.ptr x.f 0])]++([(x.me,Zc [e0,e1,e2,e3,e4,e5,e6,e7,e8,e9,.sl x.cd 0 q 0]),(x.cd,.row 475 8 q (sput code (0+p*8+7) [.ifc 323 (.agg [.ptr x.ob 0])])),(x.tb,.row 307 7 33 tab)]++([(x.nm,SB.map es),(x.ob,obB)]++([(ζ.2.1,Zw 366 1 1 [.ifc 244 (.ptr ζ.2.2 0)]),(ζ.2.2,Zc [.ptr x.ob 0,Zz])]++K)))) :=
 Sr (us:=[]) (q:=0) (Θ:=Nat × Nat × Nat) (m0:=.sl x.en 0 9 0) (m1:=x.m1) (m2:=x.m2) (m3:=x.m3) (m4:=x.m4) (m5:=Zi 2) (m6:=.fn 25 [] []) (m7:=.fn 18 [] []) (m8:=.sl x.tb 0 33 0) (m9:=.mp x.nm) (m10:=Zz) (m13:=(Zn (hp+1))) (m14:=x.m14) (m15:=evv) (m16:=x.m16) (r0:=fun _=>.sl x.en 0 9 0) (r1:=fun _=>x.m1) (r2:=fun _=>x.m2) (r3:=fun _=>x.m3) (r4:=fun _=>x.m4) (r5:=fun _=>Zi 2) (r6:=fun _=>.fn 25 [] []) (r7:=fun _=>.fn 18 [] []) (r8:=fun _=>.sl x.tb 0 33 0) (r9:=fun _=>.mp x.nm) (r10:=fun _=>Zz) (r11:=fun _=>.sl un 0 1 0) (r13:=fun _=>(Zn hp)) (r14:=fun _=>x.m14) (r15:=fun _=>evv) (r16:=fun _=>x.m16) (FR1:=fun ζ=>.cells [.ptr x.me 0,Zn p,Zn (p+1),a3,.sl ζ.2.1 0 1 0,Zp,Zp]) (U1:=fun ζ=>([(un,Zw 364 1 1 [.ptr x.f 0])]++([(x.me,Zc [e0,e1,e2,e3,e4,e5,e6,e7,e8,e9,.sl x.cd 0 q 0]),(x.cd,.row 475 8 q (sput code (0+p*8+7) [.ifc 323 (.agg [.ptr x.ob 0])])),(x.tb,.row 307 7 33 tab)]++([(x.nm,SB.map es),(x.ob,obB)]++([(ζ.2.1,Zw 366 1 1 [.ifc 244 (.ptr ζ.2.2 0)]),(ζ.2.2,Zc [.ptr x.ob 0,Zz])]++K))))) rfl (by omega) (by omega) hd hdb fun N=>by
  refine HF.permR (HF.conv (K:=[]) (Zdw x (N:=N) (un:=un) (evv:=evv) (a3:=a3) (e0:=e0) (e1:=e1) (e2:=e2) (e3:=e3) (e4:=e4) (e5:=e5) (e6:=e6) (e7:=e7) (e8:=e8) (e9:=e9) (K:=[(un,Zw 364 1 1 [.ptr x.f 0])]++K) hf hhp hp' hq hl hop ht hc hc1 hr g1 g2 g3 g4) ?_) ?_
  ·rw [List.append_nil];exact List.Perm.append_left [(x.mc,x.M (.sl un 0 1 0) evv (Zn (hp+1))),(x.f,Zc [.ptr x.me 0,Zn p,Zn (p+1),a3,Zz,Zp,Zp])] (pmS [(un,Zw 364 1 1 [.ptr x.f 0])] ([(x.me,Zc [e0,e1,e2,e3,e4,e5,e6,e7,e8,e9,.sl x.cd 0 q 0]),(x.cd,.row 475 8 q code),(x.tb,.row 307 7 33 tab)]++[(x.nm,SB.map es),(x.ob,obB)]) K)
  ·rintro u N' H' ⟨H1,⟨_,ζ,rfl,rfl⟩,hpm⟩;rw [List.append_nil] at hpm;exact ⟨_,hpm.symm.trans (List.Perm.append_left [(x.mc,x.M (.sl un 0 1 0) evv (Zn hp)),(x.f,Zc [.ptr x.me 0,Zn p,Zn (p+1),a3,.sl ζ.2.1 0 1 0,Zp,Zp])] (pmS ([(x.me,Zc [e0,e1,e2,e3,e4,e5,e6,e7,e8,e9,.sl x.cd 0 q 0]),(x.cd,.row 475 8 q (sput code (0+p*8+7) [.ifc 323 (.agg [.ptr x.ob 0])])),(x.tb,.row 307 7 33 tab)]++[(x.nm,SB.map es),(x.ob,obB),(ζ.2.1,Zw 366 1 1 [.ifc 244 (.ptr ζ.2.2 0)]),(ζ.2.2,Zc [.ptr x.ob 0,Zz])]) [(un,Zw 364 1 1 [.ptr x.f 0])] K)),ζ,J,J⟩
end
end S
namespace S
open Go Go.RowKit E
structure Fc where
 (mc mt ch fu:Nat) (m0 m1 m2 m3 m4 m5 m6 m7 m8 m9 m10 m14:SV)
structure FP where
 (nn un dn:Nat) (ev hv:SV) (R:Ch)
inductive Fg (A1 A2 Z:Type) where
 | one (a:A1) | two (a:A2) | over (z:Z)
section
variable {A1 A2 Z:Type} (c:Fc) (d1:A1->FP) (d2:A2->FP) (d0:Z->FP) (mu1:A1->Nat) (mu2:A2->Nat)
def Fc.H (q:Nat) (a:FP):Ch:=[(c.mc,.cells [c.m0,c.m1,c.m2,c.m3,c.m4,c.m5,c.m6,c.m7,c.m8,c.m9,c.m10,.sl a.un 0 q 0,.ptr c.mt 0,a.hv,c.m14,a.ev,Zp]),(c.mt,.cells [Zi c.fu,Zn a.dn,.ch c.ch]),(c.ch,.chan 1 0)]++a.R
def Fg.d:Fg A1 A2 Z->FP
 | .one a=>d1 a
 | .two a=>d2 a
 | .over z=>d0 z
def Fg.hh:Fg A1 A2 Z->Ch
 | .one a=>c.H 1 (d1 a)
 | .two a=>c.H 2 (d2 a)
 | .over z=>c.H 0 (d0 z)
def Fg.mu:Fg A1 A2 Z->Nat
 | .one a=>mu1 a
 | .two a=>mu2 a
 | .over _=>0
end
section
set_option maxRecDepth 10000
variable {A1 A2 Z:Type} {c:Fc} {d1:A1->FP} {d2:A2->FP} {d0:Z->FP} {mu1:A1->Nat} {mu2:A2->Nat}
theorem Gy (a0:A1)
  (h1:∀ a:A1,HF Tryz.prog 353 [.ptr c.mc 0] (d1 a).nn (c.H 1 (d1 a)) fun u N' H'=>∃ s:Fg A1 A2 Z,u=.tup []/\N'=(s.d d1 d2 d0).nn/\H'=s.hh c d1 d2 d0/\s.mu mu1 mu2<mu1 a)
  (h2:∀ a:A2,HF Tryz.prog 353 [.ptr c.mc 0] (d2 a).nn (c.H 2 (d2 a)) fun u N' H'=>∃ s:Fg A1 A2 Z,u=.tup []/\N'=(s.d d1 d2 d0).nn/\H'=s.hh c d1 d2 d0/\s.mu mu1 mu2<mu2 a) :
  HF Tryz.prog 317 [.ptr c.mc 0] (d1 a0).nn ([(c.mc,.cells [c.m0,c.m1,c.m2,c.m3,c.m4,c.m5,c.m6,c.m7,c.m8,c.m9,c.m10,.sl (d1 a0).un 0 1 0,.ptr c.mt 0,(d1 a0).hv,c.m14,(d1 a0).ev,Zp])]++([(c.mt,.cells [Zi c.fu,Zi (.ofNat (d1 a0).dn),.ch c.ch]),(c.ch,.chan 1 0)]++(d1 a0).R)) fun u N' H'=>∃ z:Z,u=.tup [Zi 1,Ze]/\N'=(d0 z).nn/\H'=c.H 0 (d0 z):=by
 refine hf1 Tryz.func317 J Tryz.ntmps317 fun _ _ _ _=>?_;refine Zd (Za 2 [] [(2,Zi 0),(3,Zs ((ByteArray.mk #[])))] [] (Z1 (Zv (Uy (α:=Fg A1 A2 Z) (st:=(fun _=>[(0,.ptr c.mc 0),(2,Zi 0),(3,Ze)])) (nn:=(fun s=>(s.d d1 d2 d0).nn)) (hh:=(fun s=>s.hh c d1 d2 d0)) (.one a0) ⟨J,J,J,trivial⟩ J J ?_))));refine T5 (α:=Fg A1 A2 Z) (fun s=>s.mu mu1 mu2) (fun _=>[(0,.ptr c.mc 0),(2,Zi 0),(3,Ze)]) (fun s=>(s.d d1 d2 d0).nn) (fun s=>s.hh c d1 d2 d0) (.one a0) ?_;rintro (a | a | z)
 ·skip
  refine Z2 (Zd (Za 6 [0] [(9,Zb true)] [] (Zg (Yj J (Ya (Zr (Zv (Z2 (Zd (Za 4 [0] [(13,Zq c.mt 0)] [] (Z0 [1,2] [2,1] Zj J J J J (Zbl) J (Zg (Z6 J (Ya (Zr (Zo (Za 1 [] [(15,Zq c.mc 0)] [] (Xo 3 [2,0,1] [] Zj J J J J (h1 a) ?_))))))))))))))))));rintro _ _ _ ⟨s',rfl,rfl,rfl,hμ⟩;refine ⟨_,([]++(s'.hh c d1 d2 d0)),J,Yo (A:=[]) (R:=[]) (T:=(s'.hh c d1 d2 d0)),?_⟩;refine Z7 (Yb ?_);show HQ _ _ _ _ _ _ _ _ _ _ _ _ ([]++(s'.hh c d1 d2 d0));exact X1 s' hμ ⟨J,J,J,trivial⟩ J J
 ·skip
  refine Z2 (Zd (Za 6 [0] [(9,Zb true)] [] (Zg (Yj J (Ya (Zr (Zv (Z2 (Zd (Za 4 [0] [(13,Zq c.mt 0)] [] (Z0 [1,2] [2,1] Zj J J J J (Zbl) J (Zg (Z6 J (Ya (Zr (Zo (Za 1 [] [(15,Zq c.mc 0)] [] (Xo 3 [2,0,1] [] Zj J J J J (h2 a) ?_))))))))))))))))));rintro _ _ _ ⟨s',rfl,rfl,rfl,hμ⟩;refine ⟨_,([]++(s'.hh c d1 d2 d0)),J,Yo (A:=[]) (R:=[]) (T:=(s'.hh c d1 d2 d0)),?_⟩;refine Z7 (Yb ?_);show HQ _ _ _ _ _ _ _ _ _ _ _ _ ([]++(s'.hh c d1 d2 d0));exact X1 s' hμ ⟨J,J,J,trivial⟩ J J
 ·skip
  refine Z2 (Zd (Za 6 [0] [(9,Zb false)] [] (Zg (Z6 J (Yz (Z8 (Z8 (Yi (Zr (Z2 (Zd (Za 5 [0] [(21,Zb false)] [] (Zg (Z6 J (Ya (Yh (Za 2 [] [(2,Zi 1),(3,Zs ((ByteArray.mk #[])))] [] (Zg (Yc (Wk 3 [0,1,2] (.inr J) Zj J ?_))))))))))))))))))));exact ⟨z,J,J,J⟩
end
end S
namespace S
open Go Go.RowKit E
def evP (j:Nat):List SV:=[Zi 1,Zn j,Ze]
def Sa (bt:Nat->Bool) (j:Nat):List SV:=evS j++((if bt j then evP j else [])++evE j)
def stN (bt:Nat->Bool) (j:Nat):Nat:=if bt j then 3 else 0
def upE (bt:Nat->Bool):Nat->Nat->List SV
 | 0,_=>[]
 | d+1,s=>Sa bt s++upE bt d (s+1)
def upN (bt:Nat->Bool):Nat->Nat->Nat
 | 0,_=>0
 | d+1,s=>stN bt s+upN bt d (s+1)
def insE (bt:Nat->Bool) (th s:Nat):Mi->List SV
 | .new k=>Ye (k+1 - th) k++upE bt (k+1 - s) s
 | .get k=>Ye (k+1 - th) k++upE bt (k+1 - s) s
 | .is k=>Ye (k+1 - th) k
 | _=>[]
def insN (bt:Nat->Bool) (s:Nat):Mi->Nat
 | .new k=>1+upN bt (k+1 - s) s
 | .get k=>1+upN bt (k+1 - s) s
 | _=>1
def Mi.th (th:Nat):Mi->Nat
 | .new k=>max th (k+1)
 | .get k=>max th (k+1)
 | .is k=>max th (k+1)
 | _=>th
def Mi.up (s:Nat):Mi->Nat
 | .new k=>max s (k+1)
 | .get k=>max s (k+1)
 | _=>s
def Xi (bt:Nat->Bool):List Mi->Nat->Nat->List SV
 | [],_,_=>[]
 | m::r,th,s=>insE bt th s m++Xi bt r (m.th th) (m.up s)
def Y1 (bt:Nat->Bool):List Mi->Nat->Nat
 | [],_=>0
 | m::r,s=>insN bt s m+Y1 bt r (m.up s)
section
variable {bt:Nat->Bool} {s k th:Nat} {r:List Mi}
theorem upE_one (h:s<=k):upE bt (k+1 - s) s=Sa bt s++upE bt (k+1 - (s+1)) (s+1):=by
 rw [show k+1 - s=(k+1 - (s+1))+1 by omega];rfl
theorem upN_one (h:s<=k):upN bt (k+1 - s) s=stN bt s+upN bt (k+1 - (s+1)) (s+1):=by
 rw [show k+1 - s=(k+1 - (s+1))+1 by omega];rfl
theorem K4 (h:k<th):Ye (k+1 - th) k=[]:=by rw [show k+1 - th=0 by omega];rfl
theorem upE_no (h:k<s):upE bt (k+1 - s) s=[]:=by rw [show k+1 - s=0 by omega];rfl
theorem upN_no (h:k<s):upN bt (k+1 - s) s=0:=by rw [show k+1 - s=0 by omega];rfl
theorem Qa {m:Mi} (hm:m=.new k\/m=.get k):Xi bt (m::r) th s=Ye (k+1 - th) k++Xi bt (m::r) (max th (k+1)) s:=by
 rcases hm with rfl | rfl
 all_goals
  show (Ye (k+1 - th) k++upE bt (k+1 - s) s)++Xi bt r (max th (k+1)) (max s (k+1))=Ye (k+1 - th) k++((Ye (k+1 - max th (k+1)) k++upE bt (k+1 - s) s)++Xi bt r (max (max th (k+1)) (k+1)) (max s (k+1)));rw [K4 (th:=max th (k+1)) (by omega),List.nil_append,List.append_assoc,show max (max th (k+1)) (k+1)=max th (k+1) by omega]
theorem To {m:Mi} (hm:m=.new k\/m=.get k) (hk:k<th) (hs:s<=k):Xi bt (m::r) th s=Sa bt s++Xi bt (m::r) th (s+1):=by
 rcases hm with rfl | rfl
 all_goals
  show (Ye (k+1 - th) k++upE bt (k+1 - s) s)++Xi bt r (max th (k+1)) (max s (k+1))=Sa bt s++((Ye (k+1 - th) k++upE bt (k+1 - (s+1)) (s+1))++Xi bt r (max th (k+1)) (max (s+1) (k+1)));rw [K4 hk,List.nil_append,List.nil_append,upE_one hs,List.append_assoc,show max (s+1) (k+1)=max s (k+1) by omega]
theorem Tn {m:Mi} (hm:m=.new k\/m=.get k) (hs:s<=k):Y1 bt (m::r) s=stN bt s+Y1 bt (m::r) (s+1):=by
 rcases hm with rfl | rfl
 all_goals
  show 1+upN bt (k+1 - s) s+Y1 bt r (max s (k+1))=stN bt s+(1+upN bt (k+1 - (s+1)) (s+1)+Y1 bt r (max (s+1) (k+1)));rw [upN_one hs,show max (s+1) (k+1)=max s (k+1) by omega];omega
theorem Nt {m:Mi} (hm:m=.new k\/m=.get k) (hk:k<th) (hs:k<s):Xi bt (m::r) th s=Xi bt r th s:=by
 rcases hm with rfl | rfl
 all_goals
  show (Ye (k+1 - th) k++upE bt (k+1 - s) s)++Xi bt r (max th (k+1)) (max s (k+1))=_;rw [K4 hk,upE_no hs,show max th (k+1)=th by omega,show max s (k+1)=s by omega];rfl
theorem Ns {m:Mi} (hm:m=.new k\/m=.get k) (hs:k<s):Y1 bt (m::r) s=1+Y1 bt r s:=by
 rcases hm with rfl | rfl
 all_goals
  show 1+upN bt (k+1 - s) s+Y1 bt r (max s (k+1))=_;rw [upN_no hs,show max s (k+1)=s by omega]
end
end S
namespace S
open Go Go.RowKit E
section
variable {bt:Nat->Bool} {ob k:Nat} {ls ls':List LP} {es es':List (ByteArray × SV)}
theorem Grown.hno (h:Grown bt ob k ls es ls' es') (hk:k<8) (hn:∀ j,ls.length<=j->j<8->findS (nmL j) es=none):∀ j,ls'.length<=j->j<8->findS (nmL j) es'=none:=by
 intro j hj hj8;have hl:=h.len;rw [h.old (nmL j) fun i hi e=>by have:=Po hj8 (by omega) e;omega];exact hn j (by omega) hj8
end
inductive AtM (oj:Nat):List Mi->List SV->Prop
 | body {r:List Mi} (h:Body r):AtM oj r []
 | pop {v:SV} {r:List Mi} (h:Body r):AtM oj (.pop::r) [v]
 | is {k:Nat} {r:List Mi} (hk:k<8) (h:Body r):AtM oj (.is k::.pop::r) [.ifc 244 (.ptr oj 0)]
def TgAt (ls:List LP):Mi->SV->Prop
 | .new k,v=>v=.ifc 485 (.agg [])\/(k<ls.length/\v=.ifc 323 (.agg [.ptr (cAt ls k) 0]))
 | .get k,v=>v=.ifc 485 (.agg [])\/(k<ls.length/\v=.ifc 384 (.agg [.ptr (cAt ls k) 0,.v (.int .i64 0)]))
 | _,v=>v=.ifc 485 (.agg [])
structure Lg where
 (x:Lm) (bt:Nat->Bool) (ins:List Mi) (tab:List SV) (b7 b8 lo oj ch fu wa ws wm:Nat) (e0 e1 e2 e3 e4 e5 e6 e7 e8 e9:SV) (totE:List SV) (totN:Nat)
abbrev Lg.T (g:Lg) (code:List SV):Ch:=[(g.x.me,Zc [g.e0,g.e1,g.e2,g.e3,g.e4,g.e5,g.e6,g.e7,g.e8,g.e9,.sl g.x.cd 0 g.ins.length 0]),(g.x.cd,.row 475 8 g.ins.length code),(g.x.tb,.row 307 7 33 g.tab)]
structure Lw (g:Lg) where
 (N un dn ev ek hp s sk ln p:Nat) (evs cc code:List SV) (ls:List LP) (es:List (ByteArray × SV)) (a1:SV) (tg:Nat->SV)
structure Lw.Ok {g:Lg} (w:Lw g):Prop where
 wf:Wf g.bt w.ls
 nm:NmOk g.x.ob w.es w.ls
 no:∀ j,w.ls.length<=j->j<8->findS (nmL j) w.es=none
 l8:w.ls.length<=8
 stt:Stt w.s w.ls
 sl:w.s<=w.ls.length
 evl:w.evs.length=w.ek*3
 evk:w.ek<=3+w.ls.length+3*w.s
 code:CodeOk g.ins w.tg w.code
 later:∀ i,w.p<i->i<g.ins.length->w.tg i=.ifc 485 (.agg [])
 here:∀ m,g.ins[w.p]?=some m->TgAt w.ls m (w.tg w.p)
 cl:w.cc.length=w.ln
 at_:AtM g.oj (g.ins.drop w.p) w.cc
 tote:w.evs++Xi g.bt (g.ins.drop w.p) w.ls.length w.s=g.totE
 totn:w.dn+Y1 g.bt (g.ins.drop w.p) w.s=g.totN
 room:g.ins.length<=w.hp+w.p
 hpb:w.hp<=100000
abbrev Lw.B {g:Lg} (w:Lw g):Ch:=bx2 g.b7 g.b8++([(g.x.en,Zw 89 2 9 (enC g.bt g.x.bm)),(g.x.nm,.map w.es),(w.ev,.row 98 3 w.ek w.evs)]++(lnB g.x.ob w.ls++[(w.sk,Zw 366 1 w.ln w.cc),(g.oj,.cells [.ptr g.x.ob 0,Zz]),(g.lo,.row 366 1 1 [.ifc 244 (.ptr g.oj 0)])]))
abbrev Lw.R {g:Lg} (w:Lw g):Ch:=[(g.x.f,Zc [.ptr g.x.me 0,w.a1,Zn w.p,.sl g.lo 0 1 0,.sl w.sk 0 w.ln 0,Zp,Zp]),(w.un,.row 364 1 1 [.ptr g.x.f 0])]++(g.T w.code++w.B)
def Lw.fp {g:Lg} (w:Lw g):FP:=⟨w.N,w.un,w.dn,.sl w.ev 0 w.ek 0,Zn w.hp,w.R⟩
def Lw.mu {g:Lg} (w:Lw g):Nat:=100*(g.ins.length - w.p)+10*(8 - w.s)
end S
namespace S
open Go Go.RowKit E
section
variable {α:Type}
theorem pmF (m f u t c:α) (X:List α):([m,t,c]++([f,u]++X)).Perm ([m,f,u,t,c]++X):=List.Perm.cons m (pmS [t,c] [f,u] X)
theorem pmG (m f u t c:α) (X:List α):([m,f,t,c]++([u]++X)).Perm ([m,t,c]++([f,u]++X)):=by
 have h:([f,t,c]++([u]++X)).Perm ([t,c]++([f]++([u]++X))):=pmS [f] [t,c] _;exact List.Perm.cons m h
end
abbrev Lg.c (g:Lg):Fc:=⟨g.x.mc,g.x.mt,g.ch,g.fu,.sl g.x.en 0 9 0,g.x.m1,g.x.m2,g.x.m3,g.x.m4,Zi 2,.fn 25 [] [],.fn 18 [] [],.sl g.x.tb 0 33 0,.mp g.x.nm,Zz,g.x.m14⟩
structure Lg.Ok (g:Lg):Prop where
 m16:g.x.m16=Zp
 tab:TabOk g.tab g.wa g.ws g.wm
 q:g.ins.length<=1000
 fu:g.totN<g.fu
 tot:g.totN<=100000
section
set_option maxRecDepth 10000
variable {g:Lg} {w:Lw g} {m:Mi} {r:List Mi}
theorem O8 (h:g.ins.drop w.p=m::r):g.ins[w.p]?=some m/\w.p<g.ins.length/\g.ins.drop (w.p+1)=r:=by
 have h1:g.ins[w.p]?=some m:=by rw [<- Nat.add_zero w.p,<- List.getElem?_drop,h];rfl
 refine ⟨h1,(List.getElem?_eq_some_iff.1 h1).1,?_⟩;rw [<- List.drop_drop,h];rfl
theorem pop_w (hg:g.Ok) (hw:w.Ok) {v:SV} (hd:g.ins.drop w.p=.pop::r) (hr:Body r) (hcc:w.cc=[v]) :
  HF Tryz.prog 353 [.ptr g.x.mc 0] w.N (g.c.H 1 w.fp) fun u N' H'=>∃ w':Lw g,w'.Ok/\u=.tup []/\N'=w'.N/\H'=g.c.H 1 w'.fp/\w'.mu<w.mu:=by
 obtain ⟨hi,hlt,hd'⟩:=O8 hd;obtain ⟨N,un,dn,ev,ek,hp,s,sk,ln,p,evs,cc,code,ls,es,a1,tg⟩:=w;simp only at hd hcc hi hlt hd';subst hcc;have hln:ln=1:=hw.cl.symm;subst hln;have hn:=hw.totn;have he:=hw.tote;simp only [hd] at hn he;have hrun:Y1 g.bt (.pop::r) s=1+Y1 g.bt r s:=rfl;rw [hrun] at hn;have h:=pop_L g.x (N:=N) (un:=un) (p:=p) (q:=g.ins.length) (dn:=dn) (fu:=g.fu) (ch:=g.ch) (cp:=1) (kc:=0) (evv:=.sl ev 0 ek 0) (hv:=Zn hp) (a1:=a1) (a3:=.sl g.lo 0 1 0) (sk:=sk) (ln:=0) (cc:=[]) (d0:=v) (code:=code) (tab:=g.tab) (wa:=g.wa) (ws:=g.ws) (wm:=g.wm) (e0:=g.e0) (e1:=g.e1) (e2:=g.e2) (e3:=g.e3) (e4:=g.e4) (e5:=g.e5) (e6:=g.e6) (e7:=g.e7) (e8:=g.e8) (e9:=g.e9) (R:=bx2 g.b7 g.b8++([(g.x.en,Zw 89 2 9 (enC g.bt g.x.bm)),(g.x.nm,.map es),(ev,.row 98 3 ek evs)]++lnB g.x.ob ls)) (K:=[(g.oj,.cells [.ptr g.x.ob 0,Zz]),(g.lo,.row 366 1 1 [.ifc 244 (.ptr g.oj 0)])]) rfl (by omega) hlt hg.q (by have:=hg.fu;omega) (by have:=hg.tot;omega) (hw.code.n p _ hi) hg.tab (hw.code.op p _ hi);rw [List.append_assoc,List.append_assoc,List.append_assoc,List.append_assoc] at h;simp only [Lm.M,hg.m16] at h;refine HF.permR (HF.conv (K:=[]) h ?_) ?_
 ·rw [List.append_nil];exact pmF _ _ _ _ _ _
 ·rintro u N' H' ⟨H1,⟨rfl,rfl,rfl⟩,hpm⟩;rw [List.append_nil] at hpm;refine ⟨_,hpm.symm.trans (pmG _ _ _ _ _ _),⟨N+1,un,dn+1,ev,ek,hp,s,sk,0,p+1,evs,[],code,ls,es,Zn p,tg⟩,?_,J,J,J,?_⟩
  ·refine ⟨hw.wf,hw.nm,hw.no,hw.l8,hw.stt,hw.sl,hw.evl,hw.evk,hw.code,fun i h1 h2=>hw.later i (by simp only at h1 ⊢;omega) h2,fun m hm=>?_,rfl,?_,?_,?_,?_,hw.hpb⟩
   ·have:=hw.later (p+1) (by simp only;omega) (List.getElem?_eq_some_iff.1 hm).1;simp only at this ⊢;rw [this];cases m;all_goals first | exact Or.inl rfl | rfl
   ·simp only;rw [hd'];exact .body hr
   ·simp only;rw [hd'];exact he
   ·simp only;rw [hd'];omega
   ·have:=hw.room;simp only at this ⊢;omega
  ·simp only [Lw.mu];omega
end
end S
namespace S
open Go Go.RowKit E
section
set_option maxRecDepth 10000
variable {g:Lg} {w:Lw g} {m:Mi} {r:List Mi} {k:Nat}
theorem Fy {ls:List LP}:TgAt ls m (.ifc 485 (.agg [])):=by
 cases m;all_goals first | exact Or.inl rfl | rfl
theorem load_w (hg:g.Ok) (hw:w.Ok) (hk:k<8) (hd:g.ins.drop w.p=.load::.is k::.pop::r) (hr:Body r) (hcc:w.cc=[]) :
  HF Tryz.prog 353 [.ptr g.x.mc 0] w.N (g.c.H 1 w.fp) fun u N' H'=>∃ w':Lw g,w'.Ok/\u=.tup []/\N'=w'.N/\H'=g.c.H 1 w'.fp/\w'.mu<w.mu:=by
 obtain ⟨hi,hlt,hd'⟩:=O8 hd;obtain ⟨N,un,dn,ev,ek,hp,s,sk,ln,p,evs,cc,code,ls,es,a1,tg⟩:=w;simp only at hd hcc hi hlt hd';subst hcc;have hln:ln=0:=hw.cl.symm;subst hln;have hn:=hw.totn;have he:=hw.tote;simp only [hd] at hn he;have hrun:Y1 g.bt (.load::.is k::.pop::r) s=1+Y1 g.bt (.is k::.pop::r) s:=rfl;rw [hrun] at hn;have h:=load_L g.x (N:=N) (un:=un) (p:=p) (q:=g.ins.length) (dn:=dn) (fu:=g.fu) (ch:=g.ch) (cp:=1) (kc:=0) (evv:=.sl ev 0 ek 0) (hv:=Zn hp) (a1:=a1) (lo:=g.lo) (t:=244) (w:=.ptr g.oj 0) (sk:=sk) (ln:=0) (cc:=[]) (code:=code) (tab:=g.tab) (wa:=g.wa) (ws:=g.ws) (wm:=g.wm) (e0:=g.e0) (e1:=g.e1) (e2:=g.e2) (e3:=g.e3) (e4:=g.e4) (e5:=g.e5) (e6:=g.e6) (e7:=g.e7) (e8:=g.e8) (e9:=g.e9) (R:=bx2 g.b7 g.b8++([(g.x.en,Zw 89 2 9 (enC g.bt g.x.bm)),(g.x.nm,.map es),(ev,.row 98 3 ek evs)]++lnB g.x.ob ls)) (K:=[(g.oj,.cells [.ptr g.x.ob 0,Zz])]) rfl (by omega) hlt hg.q (by have:=hg.fu;omega) (by have:=hg.tot;omega) (hw.code.n p _ hi) hg.tab (hw.code.op p _ hi);simp only [Lm.M,hg.m16] at h
 have pmO:∀ (sk:Nat × SB),((bx2 g.b7 g.b8++([(g.x.en,Zw 89 2 9 (enC g.bt g.x.bm)),(g.x.nm,.map es),(ev,.row 98 3 ek evs)]++lnB g.x.ob ls))++([sk,(g.lo,Zw 366 1 1 [.ifc 244 (.ptr g.oj 0)])]++[(g.oj,Zc [.ptr g.x.ob 0,Zz])])).Perm (bx2 g.b7 g.b8++([(g.x.en,Zw 89 2 9 (enC g.bt g.x.bm)),(g.x.nm,.map es),(ev,.row 98 3 ek evs)]++(lnB g.x.ob ls++[sk,(g.oj,.cells [.ptr g.x.ob 0,Zz]),(g.lo,.row 366 1 1 [.ifc 244 (.ptr g.oj 0)])]))):=fun sk=>by
  rw [List.append_assoc,List.append_assoc];exact List.Perm.append_left _ (List.Perm.append_left _ (List.Perm.append_left _ (List.Perm.cons _ (List.Perm.swap _ _ _))))
 refine HF.permR (HF.conv (K:=[]) h ?_) ?_
 ·rw [List.append_nil];exact (pmF _ _ _ _ _ _).trans (List.Perm.append_left _ (List.Perm.append_left _ (pmO _).symm))
 ·rintro u N' H' ⟨H1,⟨s1,rfl,rfl⟩,hpm⟩;rw [List.append_nil] at hpm;refine ⟨_,hpm.symm.trans ((List.Perm.append_left _ (List.Perm.append_left _ (List.Perm.append_left _ (pmO _)))).trans (pmG _ _ _ _ _ _)),⟨N',un,dn+1,ev,ek,hp,s,s1,1,p+1,evs,[.ifc 244 (.ptr g.oj 0)],code,ls,es,Zn p,tg⟩,?_,J,J,J,?_⟩
  ·refine ⟨hw.wf,hw.nm,hw.no,hw.l8,hw.stt,hw.sl,hw.evl,hw.evk,hw.code,fun i h1 h2=>hw.later i (by simp only at h1 ⊢;omega) h2,fun m hm=>?_,rfl,?_,?_,?_,?_,hw.hpb⟩
   ·have:=hw.later (p+1) (by simp only;omega) (List.getElem?_eq_some_iff.1 hm).1;simp only at this ⊢;rw [this];exact Fy
   ·simp only;rw [hd'];exact .is hk hr
   ·simp only;rw [hd'];exact he
   ·simp only;rw [hd'];omega
   ·have:=hw.room;simp only at this ⊢;omega
  ·simp only [Lw.mu];omega
theorem ret_w (hg:g.Ok) (hw:w.Ok) (hd:g.ins.drop w.p=[.ret]) :
  HF Tryz.prog 353 [.ptr g.x.mc 0] w.N (g.c.H 1 w.fp) fun u N' H'=>∃ R:Ch,u=.tup []/\H'=g.c.H 0 ⟨N',w.un,g.totN,.sl w.ev 0 w.ek 0,Zn w.hp,[(w.ev,.row 98 3 w.ek g.totE)]++R⟩:=by
 obtain ⟨hi,hlt,hd'⟩:=O8 hd;obtain ⟨N,un,dn,ev,ek,hp,s,sk,ln,p,evs,cc,code,ls,es,a1,tg⟩:=w;simp only at hd hi hlt hd';have hn:=hw.totn;have he:=hw.tote;simp only [hd] at hn he;have hrun:Y1 g.bt [.ret] s=1:=rfl;rw [hrun] at hn;have he':evs=g.totE:=by rw [<- he];exact (List.append_nil _).symm
 subst he';rw [<- hn];have h:=ret_L g.x (N:=N) (un:=un) (p:=p) (q:=g.ins.length) (dn:=dn) (fu:=g.fu) (ch:=g.ch) (cp:=1) (kc:=0) (evv:=.sl ev 0 ek 0) (hv:=Zn hp) (a1:=a1) (a3:=.sl g.lo 0 1 0) (a4:=.sl sk 0 ln 0) (code:=code) (tab:=g.tab) (wa:=g.wa) (ws:=g.ws) (wm:=g.wm) (e0:=g.e0) (e1:=g.e1) (e2:=g.e2) (e3:=g.e3) (e4:=g.e4) (e5:=g.e5) (e6:=g.e6) (e7:=g.e7) (e8:=g.e8) (e9:=g.e9) (K:=bx2 g.b7 g.b8++([(g.x.en,Zw 89 2 9 (enC g.bt g.x.bm)),(g.x.nm,.map es),(ev,.row 98 3 ek g.totE)]++(lnB g.x.ob ls++[(sk,Zw 366 1 ln cc),(g.oj,.cells [.ptr g.x.ob 0,Zz]),(g.lo,.row 366 1 1 [.ifc 244 (.ptr g.oj 0)])]))) hlt hg.q (by have:=hg.fu;omega) (by have:=hg.tot;omega) (hw.code.n p _ hi) hg.tab (hw.code.op p _ hi);simp only [Lm.M,hg.m16] at h;refine HF.permR (HF.conv (K:=[]) h ?_) ?_
 ·rw [List.append_nil];exact pmF _ _ _ _ _ _
 ·rintro u N' H' ⟨H1,⟨rfl,rfl,rfl⟩,hpm⟩;rw [List.append_nil] at hpm;exact ⟨g.c.H 0 ⟨N+1,un,dn+1,.sl ev 0 ek 0,Zn hp,[(ev,Zw 98 3 ek g.totE)]++([(g.x.f,Zc [.ptr g.x.me 0,Zn p,Zn (p+1),.sl g.lo 0 1 0,.sl sk 0 ln 0,Zp,Zp]),(un,.row 364 1 0 []),(g.x.me,Zc [g.e0,g.e1,g.e2,g.e3,g.e4,g.e5,g.e6,g.e7,g.e8,g.e9,.sl g.x.cd 0 g.ins.length 0]),(g.x.cd,.row 475 8 g.ins.length code),(g.x.tb,.row 307 7 33 g.tab),(g.b8,.cells [.fn 299 [] [.ptr g.b7 0]]),(g.b7,.cells [Zb true]),(g.x.en,Zw 89 2 9 (enC g.bt g.x.bm)),(g.x.nm,.map es)]++(lnB g.x.ob ls++[(sk,Zw 366 1 ln cc),(g.oj,.cells [.ptr g.x.ob 0,Zz]),(g.lo,.row 366 1 1 [.ifc 244 (.ptr g.oj 0)])]))⟩,hpm.symm.trans ((pmG _ _ _ _ _ _).trans (List.Perm.append_left _ (pmS [(g.x.f,Zc [.ptr g.x.me 0,Zn p,Zn (p+1),.sl g.lo 0 1 0,.sl sk 0 ln 0,Zp,Zp]),(un,.row 364 1 0 []),(g.x.me,Zc [g.e0,g.e1,g.e2,g.e3,g.e4,g.e5,g.e6,g.e7,g.e8,g.e9,.sl g.x.cd 0 g.ins.length 0]),(g.x.cd,.row 475 8 g.ins.length code),(g.x.tb,.row 307 7 33 g.tab),(g.b8,.cells [.fn 299 [] [.ptr g.b7 0]]),(g.b7,.cells [Zb true]),(g.x.en,Zw 89 2 9 (enC g.bt g.x.bm)),(g.x.nm,.map es)] [(ev,Zw 98 3 ek g.totE)] (lnB g.x.ob ls++[(sk,Zw 366 1 ln cc),(g.oj,.cells [.ptr g.x.ob 0,Zz]),(g.lo,.row 366 1 1 [.ifc 244 (.ptr g.oj 0)])])))),_,J,J⟩
end
end S
namespace S
open Go Go.RowKit E
section
set_option maxRecDepth 10000
variable {bt:Nat->Bool} {ob N cd p q ev ek k:Nat} {code:List SV} {evs:List SV} {ls:List LP} {es:List (ByteArray × SV)} {t1 t2 t3 t4 t5 t6 r1 r2 r3 r4:SV} {B:Ch}
theorem Kg (x:Ml) (hk:k<8) (hw:Wf bt ls) (hok:NmOk ob es ls) (hno:∀ j,ls.length<=j->j<8->findS (nmL j) es=none) (he:evs.length=ek*3) (hek:ek<=10000) (hp:p<q) (hq:q<=1000) (h1:sOne t1=true) (h2:sOne t2=true) (h3:sOne t3=true) (h4:sOne t4=true) (h5:sOne t5=true) (h6:sOne t6=true) (hl:code.length=q*8) (hc:code[0+p*8+7]?=some (.ifc 485 (.agg []))) (hr:cutAt code (0+p*8+2) 5=[Zs (nmL k),r1,r2,r3,r4]) (g1:sOne r1=true) (g2:sOne r2=true) (g3:sOne r3=true) (g4:sOne r4=true) :
  HF Tryz.prog 395 [.ptr x.mc 0,.agg [.fn 213 [] [],t1,t2,t3,t4,t5,t6],.ptr cd (0+p*8)] N ([(cd,.row 475 8 q code)]++(B++x.H bt ev ek evs es (lnB ob ls))) fun u N' H'=>∃ θ:Hv bt ob k ls es,u=.tup []/\N'=θ.n/\H'=[(cd,.row 475 8 q (sput code (0+p*8+7) [.ifc 323 (.agg [.ptr (cAt θ.ls' k) 0])]))]++(B++x.H bt θ.ev (ek+(k+1 - ls.length)) (evs++Ye (k+1 - ls.length) k) θ.es' (lnB ob θ.ls')):=by
 have pmB:∀ (c:Nat × SB) (X:Ch),([c]++(B++X)).Perm (([c]++X)++B):=fun c X=>by
  rw [List.append_assoc];exact List.Perm.append_left [c] List.perm_append_comm
 refine HF.permR (HF.conv (K:=B) (lookL x hk hw hok (fun j h1 h2=>hno j h1 (by omega)) he (by omega) hp hq h1 h2 h3 h4 h5 h6 hl hc hr g1 g2 g3 g4) (pmB _ _)) ?_;rintro u N' H' ⟨H1,⟨θ,rfl,rfl,rfl⟩,hpm⟩;exact ⟨_,hpm.symm.trans (pmB _ _).symm,θ,J,J,J⟩
end
end S
namespace S
open Go Go.RowKit E
section
set_option maxRecDepth 10000
variable {g:Lg} {w:Lw g} {r:List Mi} {k n0:Nat}
theorem new_w (hg:g.Ok) (hT:TabL g.tab n0) (hw:w.Ok) (hk:k<8) (hd:g.ins.drop w.p=.new k::.pop::r) (hr:Body r) (hcc:w.cc=[]) (hks:k<w.s) :
  HF Tryz.prog 353 [.ptr g.x.mc 0] w.N (g.c.H 1 w.fp) fun u N' H'=>∃ w':Lw g,w'.Ok/\u=.tup []/\N'=w'.N/\H'=g.c.H 1 w'.fp/\w'.mu<w.mu:=by
 obtain ⟨hi,hlt,hd'⟩:=O8 hd;obtain ⟨N,un,dn,ev,ek,hp,s,sk,ln,p,evs,cc,code,ls,es,a1,tg⟩:=w;simp only at hd hcc hi hlt hd' hks;subst hcc;have hln:ln=0:=hw.cl.symm;subst hln;have hkl:k<ls.length:=by have:=hw.sl;simp only at this;omega
 have hn:=hw.totn;have he:=hw.tote;simp only [hd] at hn he;rw [Ns (.inl rfl) hks] at hn;rw [Nt (.inl rfl) hkl hks] at he;obtain ⟨h0,rfl⟩:∃ h0,hp=h0+1:=⟨hp - 1,by have:=hw.room;simp only at this;omega⟩;have hek:ek<=10000:=by have h1:=hw.evk;have h2:=hw.l8;have h3:=hw.sl;simp only at h1 h2 h3;omega
 have key:∀ (code1:Hv g.bt g.x.ob k ls es->List SV) (tg1:Hv g.bt g.x.ob k ls es->Nat->SV),(∀ θ,CodeOk g.ins (tg1 θ) (code1 θ))->(∀ θ i,p<i->tg1 θ i=tg i)->(∀ θ,(code1 θ)[0+p*8+7]?=some (.ifc 323 (.agg [.ptr (cAt θ.ls' k) 0])))->(∀ N,HF Tryz.prog 395 [.ptr g.x.mc 0,.agg [.fn 213 [] [],.v .nilFunc,Zb true,.v .nilFunc,.fn 214 [] [],.v .nilFunc,.v .nilFunc],.ptr g.x.cd (0+p*8)] N ([(g.x.cd,.row 475 8 g.ins.length code)]++(bx2 g.b7 g.b8++(g.x.ml (.sl un 0 1 0) (Zn (h0+1))).H g.bt ev ek evs es (lnB g.x.ob ls))) fun u N' H'=>∃ θ:Hv g.bt g.x.ob k ls es,u=.tup []/\N'=θ.n/\H'=[(g.x.cd,.row 475 8 g.ins.length (code1 θ))]++(bx2 g.b7 g.b8++(g.x.ml (.sl un 0 1 0) (Zn (h0+1))).H g.bt θ.ev (ek+(k+1 - ls.length)) (evs++Ye (k+1 - ls.length) k) θ.es' (lnB g.x.ob θ.ls')))->HF Tryz.prog 353 [.ptr g.x.mc 0] N (g.c.H 1 (Lw.fp (g:=g) ⟨N,un,dn,ev,ek,h0+1,s,sk,0,p,evs,[],code,ls,es,a1,tg⟩)) fun u N' H'=>∃ w':Lw g,w'.Ok/\u=.tup []/\N'=w'.N/\H'=g.c.H 1 w'.fp/\w'.mu<Lw.mu (g:=g) ⟨N,un,dn,ev,ek,h0+1,s,sk,0,p,evs,[],code,ls,es,a1,tg⟩:=by
  intro code1 tg1 hC1 htg hcode hL;have h:=Hm g.x (N:=N) (un:=un) (p:=p) (q:=g.ins.length) (op:=15) (dn:=dn) (fu:=g.fu) (ch:=g.ch) (cp:=1) (kc:=0) (hp:=h0) (a1:=a1) (a3:=.sl g.lo 0 1 0) (sk:=sk) (ln:=0) (cc:=[]) (s:=s) (code:=code) (tab:=g.tab) (g:=213) (cap:=[]) (e0:=g.e0) (e1:=g.e1) (e2:=g.e2) (e3:=g.e3) (e4:=g.e4) (e5:=g.e5) (e6:=g.e6) (e7:=g.e7) (e8:=g.e8) (e9:=g.e9) (B:=bx2 g.b7 g.b8) (K:=[(g.oj,.cells [.ptr g.x.ob 0,Zz]),(g.lo,.row 366 1 1 [.ifc 244 (.ptr g.oj 0)])]) hw.stt hw.sl hks rfl (by omega) (by have:=hw.hpb;simp only at this;omega) hlt hg.q (by have:=hg.fu;omega) (by have:=hg.tot;omega) (hw.code.op p _ hi) (by decide) hT.new hcode hL;simp only [Lm.M,hg.m16] at h;refine HF.permR (HF.conv (K:=[]) h ?_) ?_
  ·rw [List.append_nil];exact pmF _ _ _ _ _ _
  ·rintro u N' H' ⟨H1,⟨⟨θ,ζ⟩,rfl,rfl⟩,hpm⟩;rw [List.append_nil] at hpm;have hsm:=θ.g.same hkl;have h0D:k+1 - ls.length=0:=by omega
   refine ⟨_,hpm.symm.trans (pmG _ _ _ _ _ _),⟨N',un,dn+1,θ.ev,ek+(k+1 - ls.length),h0,s,ζ.2.1,1,p+1,evs++Ye (k+1 - ls.length) k,[.ifc 244 (.ptr ζ.2.2 0)],code1 θ,θ.ls',θ.es',Zn p,tg1 θ⟩,?_,J,J,J,?_⟩
   ·refine ⟨θ.g.wf,θ.g.ok,θ.g.hno hk hw.no,by simp only;rw [hsm];exact hw.l8,θ.g.stt hw.stt hw.sl,by simp only;rw [hsm];exact hw.sl,?_,?_,hC1 θ,fun i h1 h2=>?_,fun m hm=>?_,J,?_,?_,?_,?_,?_⟩
    ·simp only;rw [h0D];show (evs++[]).length=(ek+0)*3;rw [List.append_nil];exact hw.evl
    ·simp only;rw [h0D,hsm];exact hw.evk
    ·simp only at h1 ⊢;rw [htg θ i (by omega)];exact hw.later i (by simp only;omega) h2
    ·have:=hw.later (p+1) (by simp only;omega) (List.getElem?_eq_some_iff.1 hm).1;simp only at this ⊢;rw [htg θ (p+1) (by omega),this];exact Fy
    ·simp only;rw [hd'];exact .pop hr
    ·simp only;rw [hd',h0D,hsm];show (evs++[])++_=_;rw [List.append_nil];exact he
    ·simp only;rw [hd'];show dn+1+(1+_)=_;rw [<- hn];show _=dn+(1+(1+_));omega
    ·have:=hw.room;simp only at this ⊢;omega
    ·have:=hw.hpb;simp only at this ⊢;omega
   ·simp only [Lw.mu];omega
 rcases hw.here _ hi with ht | ⟨_,ht⟩
 ·simp only at ht;obtain ⟨qa,qb,hrf⟩:=hw.code.ref p _ hi;refine key (fun θ=>sput code (0+p*8+7) [.ifc 323 (.agg [.ptr (cAt θ.ls' k) 0])]) (fun θ=>V4 tg p (.ifc 323 (.agg [.ptr (cAt θ.ls' k) 0]))) (fun θ=>hw.code.put hlt _) (fun θ i h=>by unfold V4;rw [if_neg (by omega)]) (fun θ=>hw.code.put_at hlt _) fun N=>?_;exact Kg (g.x.ml (.sl un 0 1 0) (Zn (h0+1))) hk hw.wf hw.nm hw.no hw.evl hek hlt hg.q J J J J J J hw.code.len (by rw [hw.code.tgt p hlt];exact congrArg some ht) hrf J J J J
 ·simp only at ht;refine key (fun _=>code) (fun _=>tg) (fun _=>hw.code) (fun _ _ _=>J) (fun θ=>by rw [hw.code.tgt p hlt,θ.g.same hkl];exact congrArg some ht) fun N=>?_;exact Q8 (g.x.ml (.sl un 0 1 0) (Zn (h0+1))) hw.wf hw.nm hkl hlt hg.q J J J J J J (by rw [hw.code.tgt p hlt];exact congrArg some ht)
end
end S
namespace S
open Go Go.RowKit E
section
set_option maxRecDepth 10000
variable {g:Lg} {w:Lw g} {r:List Mi} {k n0:Nat}
theorem get_w (hg:g.Ok) (hT:TabL g.tab n0) (hb8:g.b8=n0+8) (hw:w.Ok) (hk:k<8) (hd:g.ins.drop w.p=.get k::.pop::r) (hr:Body r) (hcc:w.cc=[]) (hks:k<w.s) :
  HF Tryz.prog 353 [.ptr g.x.mc 0] w.N (g.c.H 1 w.fp) fun u N' H'=>∃ w':Lw g,w'.Ok/\u=.tup []/\N'=w'.N/\H'=g.c.H 1 w'.fp/\w'.mu<w.mu:=by
 obtain ⟨hi,hlt,hd'⟩:=O8 hd;obtain ⟨N,un,dn,ev,ek,hp,s,sk,ln,p,evs,cc,code,ls,es,a1,tg⟩:=w;simp only at hd hcc hi hlt hd' hks;subst hcc;have hln:ln=0:=hw.cl.symm;subst hln;have hkl:k<ls.length:=by have:=hw.sl;simp only at this;omega
 have hn:=hw.totn;have he:=hw.tote;simp only [hd] at hn he;rw [Ns (.inr rfl) hks] at hn;rw [Nt (.inr rfl) hkl hks] at he;have hek:ek<=10000:=by have h1:=hw.evk;have h2:=hw.l8;have h3:=hw.sl;simp only at h1 h2 h3;omega
 have key:∀ (code1:Hv g.bt g.x.ob k ls es->List SV) (tg1:Hv g.bt g.x.ob k ls es->Nat->SV),(∀ θ,CodeOk g.ins (tg1 θ) (code1 θ))->(∀ θ i,p<i->tg1 θ i=tg i)->(∀ θ,(code1 θ)[0+p*8+7]?=some (.ifc 384 (.agg [.ptr (cAt θ.ls' k) 0,Zi 0])))->(∀ N,HF Tryz.prog 395 [.ptr g.x.mc 0,.agg [.fn 346 [] [.ptr g.b8 0],.v .nilFunc,Zb true,.v .nilFunc,.v .nilFunc,.fn 218 [] [],.v .nilFunc],.ptr g.x.cd (0+p*8)] N ([(g.x.cd,.row 475 8 g.ins.length code)]++(bx2 g.b7 g.b8++(g.x.ml (.sl un 0 1 0) (Zn hp)).H g.bt ev ek evs es (lnB g.x.ob ls))) fun u N' H'=>∃ θ:Hv g.bt g.x.ob k ls es,u=.tup []/\N'=θ.n/\H'=[(g.x.cd,.row 475 8 g.ins.length (code1 θ))]++(bx2 g.b7 g.b8++(g.x.ml (.sl un 0 1 0) (Zn hp)).H g.bt θ.ev (ek+(k+1 - ls.length)) (evs++Ye (k+1 - ls.length) k) θ.es' (lnB g.x.ob θ.ls')))->HF Tryz.prog 353 [.ptr g.x.mc 0] N (g.c.H 1 (Lw.fp (g:=g) ⟨N,un,dn,ev,ek,hp,s,sk,0,p,evs,[],code,ls,es,a1,tg⟩)) fun u N' H'=>∃ w':Lw g,w'.Ok/\u=.tup []/\N'=w'.N/\H'=g.c.H 1 w'.fp/\w'.mu<Lw.mu (g:=g) ⟨N,un,dn,ev,ek,hp,s,sk,0,p,evs,[],code,ls,es,a1,tg⟩:=by
  intro code1 tg1 hC1 htg hcode hL;have h:=Hn g.x (N:=N) (un:=un) (p:=p) (q:=g.ins.length) (op:=18) (dn:=dn) (fu:=g.fu) (ch:=g.ch) (cp:=1) (kc:=0) (hv:=Zn hp) (a1:=a1) (a3:=.sl g.lo 0 1 0) (sk:=sk) (ln:=0) (cc:=[]) (s:=s) (code:=code) (tab:=g.tab) (g:=346) (cap:=[.ptr g.b8 0]) (e0:=g.e0) (e1:=g.e1) (e2:=g.e2) (e3:=g.e3) (e4:=g.e4) (e5:=g.e5) (e6:=g.e6) (e7:=g.e7) (e8:=g.e8) (e9:=g.e9) (B:=bx2 g.b7 g.b8) (K:=[(g.oj,.cells [.ptr g.x.ob 0,Zz]),(g.lo,.row 366 1 1 [.ifc 244 (.ptr g.oj 0)])]) hw.stt hw.sl hks rfl (by omega) hlt hg.q (by have:=hg.fu;omega) (by have:=hg.tot;omega) (hw.code.op p _ hi) (by decide) (by rw [hb8];exact hT.get) hcode hL;simp only [Lm.M,hg.m16] at h;refine HF.permR (HF.conv (K:=[]) h ?_) ?_
  ·rw [List.append_nil];exact pmF _ _ _ _ _ _
  ·rintro u N' H' ⟨H1,⟨⟨θ,ζ⟩,rfl,rfl⟩,hpm⟩;rw [List.append_nil] at hpm;have hsm:=θ.g.same hkl;have h0D:k+1 - ls.length=0:=by omega
   refine ⟨_,hpm.symm.trans (pmG _ _ _ _ _ _),⟨N',un,dn+1,θ.ev,ek+(k+1 - ls.length),hp,s,ζ.2.1,1,p+1,evs++Ye (k+1 - ls.length) k,[.ifc 3 (Zi 0)],code1 θ,θ.ls',θ.es',Zn p,tg1 θ⟩,?_,J,J,J,?_⟩
   ·refine ⟨θ.g.wf,θ.g.ok,θ.g.hno hk hw.no,by simp only;rw [hsm];exact hw.l8,θ.g.stt hw.stt hw.sl,by simp only;rw [hsm];exact hw.sl,?_,?_,hC1 θ,fun i h1 h2=>?_,fun m hm=>?_,J,?_,?_,?_,?_,?_⟩
    ·simp only;rw [h0D];show (evs++[]).length=(ek+0)*3;rw [List.append_nil];exact hw.evl
    ·simp only;rw [h0D,hsm];exact hw.evk
    ·simp only at h1 ⊢;rw [htg θ i (by omega)];exact hw.later i (by simp only;omega) h2
    ·have:=hw.later (p+1) (by simp only;omega) (List.getElem?_eq_some_iff.1 hm).1;simp only at this ⊢;rw [htg θ (p+1) (by omega),this];exact Fy
    ·simp only;rw [hd'];exact .pop hr
    ·simp only;rw [hd',h0D,hsm];show (evs++[])++_=_;rw [List.append_nil];exact he
    ·simp only;rw [hd'];show dn+1+(1+_)=_;rw [<- hn];show _=dn+(1+(1+_));omega
    ·have:=hw.room;simp only at this ⊢;omega
    ·have:=hw.hpb;simp only at this ⊢;omega
   ·simp only [Lw.mu];omega
 rcases hw.here _ hi with ht | ⟨_,ht⟩
 ·simp only at ht;obtain ⟨qa,qb,hrf⟩:=hw.code.ref p _ hi;refine key (fun θ=>sput code (0+p*8+7) [.ifc 384 (.agg [.ptr (cAt θ.ls' k) 0,Zi 0])]) (fun θ=>V4 tg p (.ifc 384 (.agg [.ptr (cAt θ.ls' k) 0,Zi 0]))) (fun θ=>hw.code.put hlt _) (fun θ i h=>by unfold V4;rw [if_neg (by omega)]) (fun θ=>hw.code.put_at hlt _) fun N=>?_;exact Zcf (g.x.ml (.sl un 0 1 0) (Zn hp)) hk hw.wf hw.nm (fun j h1 h2=>hw.no j h1 (by omega)) hw.evl (by omega) hlt hg.q J J J J J J hw.code.len (by rw [hw.code.tgt p hlt];exact congrArg some ht) hrf
 ·simp only at ht;refine key (fun _=>code) (fun _=>tg) (fun _=>hw.code) (fun _ _ _=>J) (fun θ=>by rw [hw.code.tgt p hlt,θ.g.same hkl];exact congrArg some ht) fun N=>?_;exact Q7 (g.x.ml (.sl un 0 1 0) (Zn hp)) hw.wf hw.nm hkl hlt hg.q J J J J J J (by rw [hw.code.tgt p hlt];exact congrArg some ht)
end
end S
namespace S
open Go Go.RowKit E
section
set_option maxRecDepth 10000
variable {g:Lg} {w:Lw g} {r:List Mi} {k n0:Nat}
theorem is_w (hg:g.Ok) (hT:TabL g.tab n0) (hw:w.Ok) (hk:k<8) (hd:g.ins.drop w.p=.is k::.pop::r) (hr:Body r) (hcc:w.cc=[.ifc 244 (.ptr g.oj 0)]) :
  HF Tryz.prog 353 [.ptr g.x.mc 0] w.N (g.c.H 1 w.fp) fun u N' H'=>∃ w':Lw g,w'.Ok/\u=.tup []/\N'=w'.N/\H'=g.c.H 1 w'.fp/\w'.mu<w.mu:=by
 obtain ⟨hi,hlt,hd'⟩:=O8 hd;obtain ⟨N,un,dn,ev,ek,hp,s,sk,ln,p,evs,cc,code,ls,es,a1,tg⟩:=w;simp only at hd hcc hi hlt hd';subst hcc;have hln:ln=1:=hw.cl.symm;subst hln;have hn:=hw.totn;have he:=hw.tote;simp only [hd] at hn he;have hrun:Y1 g.bt (.is k::.pop::r) s=1+Y1 g.bt (.pop::r) s:=rfl;rw [hrun] at hn;have hrue:Xi g.bt (.is k::.pop::r) ls.length s=Ye (k+1 - ls.length) k++Xi g.bt (.pop::r) (max ls.length (k+1)) s:=rfl;rw [hrue] at he;have hek:ek<=10000:=by have h1:=hw.evk;have h2:=hw.l8;have h3:=hw.sl;simp only at h1 h2 h3;omega
 have ht:tg p=.ifc 485 (.agg []):=hw.here _ hi;obtain ⟨qa,qb,hrf⟩:=hw.code.ref p _ hi;have h:=Ce g.x (N:=N) (ev:=ev) (ek:=ek) (evs:=evs) (ls:=ls) (es:=es) (bt:=g.bt) (un:=un) (p:=p) (q:=g.ins.length) (op:=26) (k:=k) (dn:=dn) (fu:=g.fu) (ch:=g.ch) (cp:=1) (kc:=0) (hv:=Zn hp) (a1:=a1) (a3:=.sl g.lo 0 1 0) (sk:=sk) (ln:=0) (cc:=[]) (oj:=g.oj) (t3:=.fn 228 [] []) (code:=code) (tab:=g.tab) (g:=213) (cap:=[]) (e0:=g.e0) (e1:=g.e1) (e2:=g.e2) (e3:=g.e3) (e4:=g.e4) (e5:=g.e5) (e6:=g.e6) (e7:=g.e7) (e8:=g.e8) (e9:=g.e9) (B:=bx2 g.b7 g.b8) (K:=[(g.lo,.row 366 1 1 [.ifc 244 (.ptr g.oj 0)])]) (code1:=fun θ=>sput code (0+p*8+7) [.ifc 323 (.agg [.ptr (cAt θ.ls' k) 0])]) hk rfl rfl (by omega) hlt hg.q (by have:=hg.fu;omega) (by have:=hg.tot;omega) (hw.code.op p _ hi) (by decide) hT.is (fun θ=>hw.code.put_at hlt _) fun N=>Kg (g.x.ml (.sl un 0 1 0) (Zn hp)) hk hw.wf hw.nm hw.no hw.evl hek hlt hg.q rfl rfl rfl rfl rfl rfl hw.code.len (by rw [hw.code.tgt p hlt];exact congrArg some ht) hrf J J J J;simp only [Lm.M,hg.m16] at h;refine HF.permR (HF.conv (K:=[]) h ?_) ?_
 ·rw [List.append_nil];exact pmF _ _ _ _ _ _
 ·rintro u N' H' ⟨H1,⟨⟨θ,ζ⟩,rfl,rfl⟩,hpm⟩;rw [List.append_nil] at hpm;have hlen:=θ.g.len;refine ⟨_,hpm.symm.trans (pmG _ _ _ _ _ _),⟨N',un,dn+1,θ.ev,ek+(k+1 - ls.length),hp,s,ζ.2,1,p+1,evs++Ye (k+1 - ls.length) k,[.ifc 3 (Zi 0)],sput code (0+p*8+7) [.ifc 323 (.agg [.ptr (cAt θ.ls' k) 0])],θ.ls',θ.es',Zn p,V4 tg p (.ifc 323 (.agg [.ptr (cAt θ.ls' k) 0]))⟩,?_,J,J,J,?_⟩
  ·refine ⟨θ.g.wf,θ.g.ok,θ.g.hno hk hw.no,by have:=hw.l8;simp only at this ⊢;omega,θ.g.stt hw.stt hw.sl,by have:=hw.sl;simp only at this ⊢;omega,?_,?_,hw.code.put hlt _,fun i h1 h2=>?_,fun m hm=>?_,rfl,?_,?_,?_,?_,hw.hpb⟩
   ·have:=hw.evl;simp only at this ⊢;rw [List.length_append,X9];omega
   ·have:=hw.evk;simp only at this ⊢;omega
   ·simp only at h1 ⊢;unfold V4;rw [if_neg (by omega)];exact hw.later i (by simp only;omega) h2
   ·have:=hw.later (p+1) (by simp only;omega) (List.getElem?_eq_some_iff.1 hm).1;simp only at this ⊢;unfold V4;rw [if_neg (by omega),this];exact Fy
   ·simp only;rw [hd'];exact .pop hr
   ·simp only;rw [hd',hlen,List.append_assoc];exact he
   ·simp only;rw [hd'];omega
   ·have:=hw.room;simp only at this ⊢;omega
  ·simp only [Lw.mu];omega
end
end S
end Go.Proofs.YtpofmnfkdkmieaaGreat
